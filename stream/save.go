package stream

import (
	"container/heap"
	"maps"
	"math"
	"slices"

	"headrace/agg"
	"headrace/api"
	"headrace/column"
	"headrace/mark"
	"headrace/page"
	"headrace/whole"
	"headrace/window"
)

const kind = 'o'

// Save: an operator as bytes (without what was told since Out). Load: the operator of some bytes.
func (o *Operator) Save() []byte {
	if o == nil {
		return nil
	}
	p := Config(nil, o.config)
	p = mark.Lay(p, o.marks)
	p = append(p, flag(o.ended))
	p = laySpans(p, o.came, o.config.Cut)
	p = column.Uint(p, o.late)
	p = column.Uint(p, uint64(o.Open()))
	for _, key := range slices.Sorted(maps.Keys(o.panes)) {
		for _, held := range o.panes[key] {
			p = layPane(p, held)
		}
	}
	return layPages(p)
}

func Load(p []byte) (*Operator, api.Errno) {
	body, err := readPages(p)
	if err != api.OK {
		return nil, err
	}
	var o *Operator
	if !column.Try(body, func(r *column.Reader) { o = readOperator(r) }) {
		return nil, api.ErrForm
	}
	return o, api.OK
}

// layPages lays bytes as pages, all as long as can be but the last, which is
// shorter: one alone might be longer than is read.
func layPages(body []byte) []byte {
	var p []byte
	for len(body) >= api.MaxPage {
		p = page.Lay(p, kind, body[:api.MaxPage])
		body = body[api.MaxPage:]
	}
	return page.Lay(p, kind, body)
}

// readPages are the bytes that were laid as such pages.
func readPages(p []byte) ([]byte, api.Errno) {
	var all []byte
	at, last := 0, false
	for !last {
		k, body, behind, err := page.Read(p, at)
		if err != api.OK {
			return nil, err
		}
		if k != kind {
			return nil, api.ErrForm
		}
		all = append(all, body...)
		at, last = behind, len(body) < api.MaxPage
	}
	if at != len(p) {
		return nil, api.ErrForm
	}
	return all, api.OK
}

// flag is 1 of what is so, else 0.
func flag(so bool) byte {
	if so {
		return 1
	}
	return 0
}

func readFlag(r *column.Reader) bool {
	b := r.Byte()
	r.Check(b <= 1)
	return b == 1
}

// layPane lays a pane behind p. Whether it is told can be seen from its window.
func layPane(p []byte, held *pane) []byte {
	p = column.Text(p, held.Key)
	p = column.Int(p, held.W.Start)
	p = column.Int(p, held.W.End)
	p = agg.Lay(p, held.S)
	return column.Uint(p, held.rev)
}

func readOperator(r *column.Reader) *Operator {
	o := &Operator{panes: map[string][]*pane{}}
	o.config = ReadConfig(r)
	o.marks = readMarks(r, o.config.Parts)
	o.ended = readFlag(r)
	o.came = readSpans(r, o.config.Cut)
	o.late = r.Uint(o.came.count())
	o.readPanes(r)
	return o
}

// readMarks are the next marks, of so many partitions' events.
func readMarks(r *column.Reader, parts int) mark.Marks {
	m := mark.Read(r)
	none, err := mark.New(parts)
	r.Check(err == api.OK && m == none.Join(m))
	for part := range parts {
		t, _ := m.Of(part)
		r.Check(t >= -api.MaxTime && t <= api.MaxTime)
	}
	return m
}

func (o *Operator) readPanes(r *column.Reader) {
	var ahead *pane
	for range r.Uint(math.MaxUint64) {
		p := o.readPane(r)
		r.Check(ahead == nil || o.apart(ahead, p))
		o.panes[p.Key] = append(o.panes[p.Key], p)
		if p.told {
			heap.Push(&o.told, p)
		} else {
			heap.Push(&o.waiting, p)
		}
		ahead = p
	}
}

// readPane is the next pane, which is one that is held.
func (o *Operator) readPane(r *column.Reader) *pane {
	p := &pane{}
	p.Key = r.Text(api.MaxKey)
	p.W.Start = r.Int()
	p.W.End = r.Int()
	r.Check(makes(o.config, p.W))
	p.S = agg.Read(r)
	r.Check(p.S.Len() > 0)
	seen, ok := o.Mark()
	r.Check(!ok || !window.Dead(o.config, p.W, seen))
	p.told = o.ended || ok && p.W.End <= seen
	p.rev = r.Uint(p.mostRev())
	return p
}

// mostRev is the greatest revision that a pane may have: it is told in the next
// one if a value more has come.
func (p *pane) mostRev() uint64 {
	if !p.told {
		return 0
	}
	return p.S.Len() - 1
}

// apart tells whether a pane stands behind another one, and isn't to be one
// with it.
func (o *Operator) apart(a, b *pane) bool {
	if a.Key == b.Key && o.belong(a.W, b.W) {
		return false
	}
	return whole.Order(a.Key, a.W, b.Key, b.W) < 0
}

// makes tells whether a window may be that of some events of a config.
func makes(c api.Config, w api.Window) bool {
	if c.Kind == api.Session {
		last := w.End - c.Size
		return w.Start >= -api.MaxTime && w.Start <= last && last <= api.MaxTime
	}
	// Of the times that events have this one is in the window, if any is.
	t := max(-api.MaxTime, min(api.MaxTime, w.Start))
	return slices.Contains(window.Of(c, t), w)
}
