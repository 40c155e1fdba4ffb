package catalog

import (
	"slices"
	"strconv"
	"strings"

	"headrace/api"
	"headrace/column"
	"headrace/page"
)

const (
	catKind = 'c'
	catName = "cat"
	tmpName = "cat.tmp"
)

func newEntry(from, to uint64, low, high int64) Entry {
	name := "seg." + strconv.FormatUint(from, 10) + "." + strconv.FormatUint(to, 10)
	return Entry{Name: name, From: from, To: to, Low: low, High: high}
}

// load reads the file cat, if there is one.
func (c *Catalog) load() api.Errno {
	p, err := c.store.Read(catName)
	if err == api.ErrNone {
		return api.OK
	}
	if err != api.OK {
		return err
	}
	body, err := page.One(p, catKind)
	if err != api.OK {
		return err
	}
	if !column.Try(body, c.readCat) {
		return api.ErrForm
	}
	return api.OK
}

func (c *Catalog) readCat(r *column.Reader) {
	r.Check(r.Uint(api.MaxParts) == uint64(c.parts))
	for range r.Uint(mostSegments) {
		from, to := r.Uint(api.MaxOffset), r.Uint(api.MaxOffset)
		low, high := r.Int(), r.Int()
		r.Check(from == c.To() && from < to && to-from <= api.MaxSeal)
		r.Check(-api.MaxTime <= low && low <= high && high <= api.MaxTime)
		c.entries = append(c.entries, newEntry(from, to, low, high))
	}
}

func layCat(parts int, l []Entry) []byte {
	p := column.Uint(column.Uint(nil, uint64(parts)), uint64(len(l)))
	for _, e := range l {
		p = column.Uint(column.Uint(p, e.From), e.To)
		p = column.Int(column.Int(p, e.Low), e.High)
	}
	return page.Lay(nil, catKind, p)
}

// clean deletes the files of segments that aren't in the catalog, and a
// catalog's that didn't come to be one.
func (c *Catalog) clean() api.Errno {
	for _, name := range c.store.List() {
		if name != tmpName && (!isSegment(name) || c.has(name)) {
			continue
		}
		if err := c.store.Delete(name); err != api.OK {
			return err
		}
	}
	return api.OK
}

func (c *Catalog) has(name string) bool {
	return slices.ContainsFunc(c.entries, func(e Entry) bool { return e.Name == name })
}

// isSegment: is it the name of a segment's file: seg.x.y, in digits?
func isSegment(name string) bool {
	rest, begins := strings.CutPrefix(name, "seg.")
	from, to, _ := strings.Cut(rest, ".")
	return begins && digits(from) && digits(to)
}

func digits(t string) bool {
	return t != "" && strings.Trim(t, "0123456789") == ""
}

// write lays a segment's file, and behind it the catalog that has it, which
// stands in the old one's place by the last operation, once all is durable.
func (c *Catalog) write(name string, p []byte, next []Entry) api.Errno {
	if err := c.lay(name, p); err != api.OK {
		return err
	}
	if err := c.lay(tmpName, layCat(c.parts, next)); err != api.OK {
		return err
	}
	return c.store.Rename(tmpName, catName)
}

// lay makes a file of bytes that are durable.
func (c *Catalog) lay(name string, p []byte) api.Errno {
	if err := c.store.Append(name, p); err != api.OK {
		return err
	}
	return c.store.Sync(name)
}
