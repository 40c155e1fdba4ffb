package ledger

import (
	"math"

	"headrace/agg"
	"headrace/api"
	"headrace/column"
	"headrace/page"
)

const (
	kind    = 'l'
	mostRev = 1 << 40
)

// Lay: changes as bytes. Read: the changes of some bytes.
func Lay(l []api.Change) []byte {
	p := column.Uint(nil, uint64(len(l)))
	for _, c := range l {
		p = layChange(p, c)
	}
	return page.Lay(nil, kind, p)
}

func Read(p []byte) ([]api.Change, api.Errno) {
	body, err := page.One(p, kind)
	if err != api.OK {
		return nil, err
	}
	var l []api.Change
	if !column.Try(body, func(r *column.Reader) { l = readChanges(r) }) {
		return nil, api.ErrForm
	}
	return l, api.OK
}

func layChange(p []byte, c api.Change) []byte {
	var put byte
	if c.Put {
		put = 1
	}
	p = column.Uint(append(p, put), c.Rev)
	p = column.Text(p, c.P.Key)
	p = column.Int(p, c.P.W.Start)
	p = column.Int(p, c.P.W.End)
	return agg.LayValue(p, c.P.A)
}

func readChanges(r *column.Reader) []api.Change {
	var l []api.Change
	// There is no room kept for all of them: how many there are said to be may
	// be any number, and the reader gives up where the bytes end.
	for range r.Uint(math.MaxUint64) {
		l = append(l, readChange(r))
	}
	return l
}

func readChange(r *column.Reader) api.Change {
	var c api.Change
	put := r.Byte()
	r.Check(put <= 1)
	c.Put = put == 1
	c.Rev = r.Uint(mostRev)
	c.P.Key = r.Text(api.MaxKey)
	c.P.W.Start = r.Int()
	c.P.W.End = r.Int()
	c.P.A = agg.ReadValue(r)
	return c
}
