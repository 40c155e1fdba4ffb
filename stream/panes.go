package stream

import (
	"container/heap"
	"slices"
	"sort"

	"headrace/api"
	"headrace/whole"
	"headrace/window"
)

// pane is a key's values in a window that are held.
type pane struct {
	whole.Group
	told bool
	rev  uint64 // the one in which it is told, or is to be
	at   int    // its place in its queue
}

// joined is one pane, which isn't told, of the values of several.
func joined(parts []*pane) *pane {
	one := &pane{Group: parts[0].Group}
	for _, p := range parts[1:] {
		one.W = window.Join(one.W, p.W)
		one.S = one.S.Join(p.S)
	}
	return one
}

// join has a group's values in the panes that are held: in one with all those
// that they meet.
func (o *Operator) join(g whole.Group) {
	held := o.panes[g.Key]
	from, to := o.meeting(held, g.W)
	// Those that are met are cut out with no room behind them: the new one must
	// not be written over the next one that is held.
	met := held[from:to:to]
	one := joined(append(met, &pane{Group: g}))
	if len(met) == 1 && met[0].W == one.W {
		o.change(met[0], one)
		return
	}
	for _, p := range met {
		o.remove(p)
	}
	heap.Push(&o.waiting, one)
	o.panes[g.Key] = slices.Replace(held, from, to, one)
}

// meeting are the places from which on, and below which, a key's panes have
// values that belong together with those of a window.
func (o *Operator) meeting(held []*pane, w api.Window) (int, int) {
	// No two of a key's sessions meet: what is met by a window and some of them
	// together is met by the window itself, and is all in one stretch.
	from := sort.Search(len(held), func(i int) bool { return !o.ahead(held[i].W, w) })
	to := from
	for to < len(held) && o.belong(held[to].W, w) {
		to++
	}
	return from, to
}

// ahead tells whether a key's window stands ahead of another one, and of
// all that belong to that.
func (o *Operator) ahead(a, w api.Window) bool {
	if o.config.Kind == api.Session {
		return a.End <= w.Start
	}
	return window.Less(a, w)
}

// belong tells whether the values of two windows are those of one pane.
func (o *Operator) belong(a, b api.Window) bool {
	return a == b || o.config.Kind == api.Session && window.Meet(a, b)
}

// change has other values in a pane whose window stays.
func (o *Operator) change(p, other *pane) {
	if !p.told {
		p.S = other.S
		return
	}
	o.takeBack(p)
	p.S = other.S
	p.rev++
	o.tell(p)
}

// remove takes a pane that is another one's part now out of its queue.
func (o *Operator) remove(p *pane) {
	if !p.told {
		heap.Remove(&o.waiting, p.at)
		return
	}
	o.takeBack(p)
	heap.Remove(&o.told, p.at)
}

// tellFirst tells the first one of those that wait.
func (o *Operator) tellFirst() {
	p := o.waiting[0]
	heap.Pop(&o.waiting)
	p.told = true
	o.tell(p)
	heap.Push(&o.told, p)
}

// dropFirst lets the first one go of those that are told.
func (o *Operator) dropFirst() {
	p := o.told[0]
	heap.Pop(&o.told)
	held := o.panes[p.Key]
	at := slices.Index(held, p)
	held = slices.Delete(held, at, at+1)
	if len(held) == 0 {
		delete(o.panes, p.Key)
		return
	}
	o.panes[p.Key] = held
}

func (o *Operator) tell(p *pane) {
	o.out = append(o.out, api.Change{Put: true, Rev: p.rev, P: p.telling()})
}

func (o *Operator) takeBack(p *pane) {
	o.out = append(o.out, api.Change{Rev: p.rev, P: p.telling()})
}

// telling is what is told of a pane's values, and was, if they haven't changed.
func (p *pane) telling() api.Pane {
	return api.Pane{Key: p.Key, W: p.W, A: p.S.Value()}
}

// queue is panes, of which the first by windows, then by keys, stands first
// (container/heap).
type queue []*pane

func (q queue) Len() int {
	return len(q)
}

func (q queue) Less(i, j int) bool {
	if q[i].W != q[j].W {
		return window.Less(q[i].W, q[j].W)
	}
	return q[i].Key < q[j].Key
}

func (q queue) Swap(i, j int) {
	q[i], q[j] = q[j], q[i]
	q[i].at, q[j].at = i, j
}

func (q *queue) Push(x any) {
	p := x.(*pane)
	p.at = len(*q)
	*q = append(*q, p)
}

func (q *queue) Pop() any {
	last := len(*q) - 1
	p := (*q)[last]
	(*q)[last] = nil // what has gone isn't kept
	*q = (*q)[:last]
	return p
}
