package sorter

import (
	"slices"
	"strconv"

	"headrace/api"
	"headrace/event"
	"headrace/files"
	"headrace/merge"
)

const runPrefix = "run."

// runs are the runs that there are, each a file of a store.
type runs struct {
	store *files.Store
	parts int
	// Of events that stand alike the first one is in the first of the runs.
	names []string
	laid  int // how many files were laid, those that have gone too
}

// sort is the events in their order, how many runs there were at first, and how
// many passes.
func (r *runs) sort(l []api.Event, p Plan) ([]api.Event, int, int, api.Errno) {
	if err := r.begin(l, p.Hold); err != api.OK {
		return nil, 0, 0, err
	}
	first, passes := len(r.names), 0
	for len(r.names) > 1 {
		if err := r.pass(p.Fan); err != api.OK {
			return nil, 0, 0, err
		}
		passes++
	}
	if first == 0 {
		return nil, 0, 0, api.OK
	}
	sorted, err := r.take(r.names[0])
	return sorted, first, passes, err
}

// begin lays the first runs.
func (r *runs) begin(l []api.Event, hold int) api.Errno {
	for held := range slices.Chunk(l, hold) {
		name, err := r.lay(event.Sort(held))
		if err != api.OK {
			return err
		}
		r.names = append(r.names, name)
	}
	return api.OK
}

// pass merges all runs, so many at once.
func (r *runs) pass(fan int) api.Errno {
	var merged []string
	for names := range slices.Chunk(r.names, fan) {
		name, err := r.merge(names)
		if err != api.OK {
			return err
		}
		merged = append(merged, name)
	}
	r.names = merged
	return api.OK
}

// merge makes one run of some; one alone stays.
func (r *runs) merge(names []string) (string, api.Errno) {
	if len(names) == 1 {
		return names[0], api.OK
	}
	taken := make([][]api.Event, len(names))
	for i, name := range names {
		l, err := r.take(name)
		if err != api.OK {
			return "", err
		}
		taken[i] = l
	}
	l, err := merge.All(taken)
	if err != api.OK {
		return "", err
	}
	return r.lay(l)
}

// lay makes a file of a run, and answers its name.
func (r *runs) lay(run []api.Event) (string, api.Errno) {
	var p []byte
	// Runs that were merged may have more events than a page may.
	for rows := range slices.Chunk(run, api.MaxRows) {
		p = event.Lay(p, rows)
	}
	name := runPrefix + strconv.Itoa(r.laid)
	r.laid++
	return name, r.store.Append(name, p)
}

// take is a run's events; its file goes.
func (r *runs) take(name string) ([]api.Event, api.Errno) {
	p, err := r.store.Read(name)
	if err != api.OK {
		return nil, err
	}
	run, err := readRun(p, r.parts)
	if err != api.OK {
		return nil, err
	}
	return run, r.store.Delete(name)
}

func readRun(p []byte, parts int) ([]api.Event, api.Errno) {
	var run []api.Event
	for at := 0; at < len(p); {
		rows, behind, err := event.Read(p, at, parts)
		if err != api.OK {
			return nil, err
		}
		run, at = append(run, rows...), behind
	}
	return run, api.OK
}
