package batch

import (
	"headrace/api"
	"headrace/whole"
	"headrace/window"
)

// groups are the groups of events that come in their order (event.Less), so
// that what is begun anew stands behind all that there is, and all are rising.
type groups []whole.Group

// add has an event's value in the groups of its windows.
func (g *groups) add(c api.Config, e api.Event) {
	for _, w := range window.Of(c, e.Time) {
		at, there := g.find(c.Kind, e.Key, w)
		if !there {
			*g = append(*g, whole.Group{Key: e.Key, W: w})
		}
		group := &(*g)[at]
		group.W = window.Join(group.W, w)
		group.S = group.S.Add(e.Val)
	}
}

// find is the place of the group which a key's window joins; where there is
// none, the place behind all.
func (g *groups) find(kind byte, key string, w api.Window) (int, bool) {
	l := *g
	// Times rise within a key: what ends ahead of the window can't be joined
	// any more, and all ahead of that ends sooner still.
	for i := len(l) - 1; i >= 0 && l[i].Key == key && l[i].W.End > w.Start; i-- {
		if l[i].W == w || kind == api.Session && window.Meet(l[i].W, w) {
			return i, true
		}
	}
	return len(l), false
}
