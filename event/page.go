package event

import (
	"headrace/api"
	"headrace/column"
	"headrace/page"
)

// The kind of an event's page.
const Kind = 'e'

// Lay: events as a page, behind other bytes: their columns.
func Lay(p []byte, l []api.Event) []byte {
	offsets := make([]int64, len(l))
	partsOf := make([]int64, len(l))
	times := make([]int64, len(l))
	keys := make([]string, len(l))
	vals := make([]float64, len(l))
	for i, e := range l {
		offsets[i] = int64(e.Offset)
		partsOf[i] = int64(e.Part)
		times[i] = e.Time
		keys[i] = e.Key
		vals[i] = e.Val
	}
	body := column.Text(nil, string(column.Ints(offsets)))
	body = column.Text(body, string(column.Ints(partsOf)))
	body = column.Text(body, string(column.Ints(times)))
	body = column.Text(body, string(column.Texts(keys)))
	body = column.Text(body, string(column.Reals(vals)))
	return page.Lay(p, Kind, body)
}

// Read: the events of the page that stands from a place on, of a log of so many partitions; the place behind it.
func Read(p []byte, at, parts int) ([]api.Event, int, api.Errno) {
	kind, body, behind, err := page.Read(p, at)
	if err != api.OK {
		return nil, 0, err
	}
	var l []api.Event
	if kind != Kind || !column.Try(body, func(r *column.Reader) { l = readEvents(r, parts) }) {
		return nil, 0, api.ErrForm
	}
	return l, behind, api.OK
}

func readEvents(r *column.Reader, parts int) []api.Event {
	offsets := readColumn(r, column.ReadInts)
	partsOf := readColumn(r, column.ReadInts)
	times := readColumn(r, column.ReadInts)
	keys := readColumn(r, column.ReadTexts)
	vals := readColumn(r, column.ReadReals)
	l := make([]api.Event, len(offsets))
	r.Check(len(partsOf) == len(l) && len(times) == len(l) && len(keys) == len(l) && len(vals) == len(l))
	for i := range l {
		e := api.Event{Offset: uint64(offsets[i]), Part: int(partsOf[i]), Time: times[i], Key: keys[i], Val: vals[i]}
		// Where an int has 32 bits, a partition may be too great for one.
		r.Check(Form(e, parts) && int64(e.Part) == partsOf[i])
		l[i] = e
	}
	return l
}

// readColumn is what read reads of the next column's bytes.
func readColumn[T any](r *column.Reader, read func(p []byte) ([]T, api.Errno)) []T {
	l, err := read([]byte(r.Text(api.MaxPage)))
	r.Check(err == api.OK)
	return l
}
