package world

import (
	"strings"

	"headrace/api"
	"headrace/catalog"
	"headrace/engine"
	"headrace/event"
)

func (w *World) emit(e api.Event) api.Errno {
	e.Offset = uint64(len(w.log))
	if !event.Form(e, w.config.Parts) {
		return api.ErrForm
	}
	// A key that is kept keeps the whole text of which it is a piece, which the
	// caller may be done with.
	e.Key = strings.Clone(e.Key)
	w.log = append(w.log, e)
	return api.OK
}

// seal has the next n events of the log in the archive.
func (w *World) seal(n int) api.Errno {
	cat, err := catalog.Open(w.store, w.config.Parts)
	if err != api.OK {
		return err
	}
	next := w.from(cat.To())
	if n < 1 || n > len(next) {
		return api.ErrArg
	}
	return cat.Seal(next[:n])
}

// from are the log's events from an offset on, of which a catalog may tell more
// than there are.
func (w *World) from(offset uint64) []api.Event {
	return w.log[min(offset, uint64(len(w.log))):]
}

func (w *World) compact(i int) api.Errno {
	cat, err := catalog.Open(w.store, w.config.Parts)
	if err != api.OK {
		return err
	}
	return cat.Compact(i)
}

// open has a new engine in the place of the one that there was, or none.
func (w *World) open() api.Errno {
	x, err := engine.Open(w.store, w.config, w.plan)
	w.engine = x
	return err
}

// deliver has the n-th event of the log come.
func (w *World) deliver(n int) api.Errno {
	if n < 0 || n >= len(w.log) {
		return api.ErrArg
	}
	return w.engine.In(w.log[n])
}

func (w *World) restart(keep []int) api.Errno {
	w.engine = nil
	return w.store.Restart(keep)
}

// spoil turns a bit of the n-th file.
func (w *World) spoil(n, bit int) api.Errno {
	names := w.store.List()
	if n < 0 || n >= len(names) {
		return api.ErrArg
	}
	return w.store.Spoil(names[n], bit)
}
