package engine

import (
	"headrace/api"
	"headrace/batch"
	"headrace/catalog"
	"headrace/ledger"
	"headrace/sorter"
	"headrace/stream"
)

// begin goes through the archive of a store without commits, and commits what is
// told of it at once.
func (x *Engine) begin(c api.Config, p sorter.Plan) api.Errno {
	cat, err := catalog.Open(x.store, c.Parts)
	if err != api.OK {
		return err
	}
	b, err := batch.Run(x.store, cat, c, p)
	if err != api.OK {
		return err
	}
	o, err := stream.New(c, b)
	if err != api.OK {
		return err
	}
	x.operator, x.waiting = o, o.Out()
	return x.Commit()
}

// goOn goes on from the state of the last commit, if that and all changes up to
// it are of one config, and in order.
func (x *Engine) goOn(c api.Config, state []byte) api.Errno {
	o, err := stream.Load(state)
	if err != api.OK {
		return err
	}
	if o.Config() != c {
		return api.ErrState
	}
	if _, err := ledgerOf(x.told); err != api.OK {
		return api.ErrForm
	}
	x.operator = o
	return api.OK
}

// ledgerOf is a ledger of these changes alone, if it takes them.
func ledgerOf(l []api.Change) (*ledger.Ledger, api.Errno) {
	g := &ledger.Ledger{}
	if err := g.Add(l); err != api.OK {
		return nil, err
	}
	return g, api.OK
}
