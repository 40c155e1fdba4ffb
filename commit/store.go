package commit

import (
	"slices"
	"strconv"
	"strings"

	"headrace/api"
	"headrace/column"
	"headrace/files"
	"headrace/page"
)

const (
	manKind     = 'm'
	manName     = "man"
	tmpName     = "man.tmp"
	statePrefix = "state."
	outPrefix   = "out."
)

func stateName(n uint64) string {
	return statePrefix + strconv.FormatUint(n, 10)
}

func outName(n uint64) string {
	return outPrefix + strconv.FormatUint(n, 10)
}

// lastOf is the last commit's number, which the file man tells (0: there is no
// such file).
func lastOf(s *files.Store) (uint64, api.Errno) {
	p, err := s.Read(manName)
	if err == api.ErrNone {
		return 0, api.OK
	}
	if err != api.OK {
		return 0, err
	}
	body, err := page.One(p, manKind)
	if err != api.OK {
		return 0, err
	}
	var n uint64
	whole := column.Try(body, func(r *column.Reader) {
		n = r.Uint(mostCommits)
		r.Check(n > 0)
	})
	if !whole {
		return 0, api.ErrForm
	}
	return n, api.OK
}

func layMan(n uint64) []byte {
	return page.Lay(nil, manKind, column.Uint(nil, n))
}

// read is the state of the commit n, and all changes up to it.
func read(s *files.Store, n uint64) ([]byte, []api.Change, api.Errno) {
	if n == 0 {
		return nil, nil, api.OK
	}
	state, first := needed(s, stateName(n))
	var all []api.Change
	for i := range n {
		l, err := readChanges(s, outName(i+1))
		all = append(all, l...)
		// Of several files' errors the store's goes first, then ErrSum, then
		// ErrForm, which are as their numbers fall.
		first = max(first, err)
	}
	if first != api.OK {
		return nil, nil, first
	}
	return state, all, api.OK
}

// needed is the bytes of a file that must be there.
func needed(s *files.Store, name string) ([]byte, api.Errno) {
	p, err := s.Read(name)
	if err == api.ErrNone {
		err = api.ErrForm
	}
	return p, err
}

func readChanges(s *files.Store, name string) ([]api.Change, api.Errno) {
	p, err := needed(s, name)
	if err != api.OK {
		return nil, err
	}
	return readOut(p)
}

// write lays the files of the commit n, and behind them the man that tells of
// it, which stands in the old one's place by the last operation, once all is
// durable.
func write(s *files.Store, n uint64, state, out []byte) api.Errno {
	if err := lay(s, stateName(n), state); err != api.OK {
		return err
	}
	if err := lay(s, outName(n), out); err != api.OK {
		return err
	}
	if err := lay(s, tmpName, layMan(n)); err != api.OK {
		return err
	}
	return s.Rename(tmpName, manName)
}

// lay makes a file of bytes that are durable.
func lay(s *files.Store, name string, p []byte) api.Errno {
	if err := s.Append(name, p); err != api.OK {
		return err
	}
	return s.Sync(name)
}

// clean deletes the files of commits that aren't those of the commit n.
func clean(s *files.Store, n uint64) api.Errno {
	ours := namesOf(n)
	for _, name := range s.List() {
		if !isCommits(name) || slices.Contains(ours, name) {
			continue
		}
		if err := s.Delete(name); err != api.OK {
			return err
		}
	}
	return api.OK
}

// namesOf are the files of the commit n, beside man.
func namesOf(n uint64) []string {
	if n == 0 {
		return nil
	}
	l := []string{stateName(n)}
	for i := range n {
		l = append(l, outName(i+1))
	}
	return l
}

// isCommits: is it the name of a file, but man, that some commit may have, or
// may have left?
func isCommits(name string) bool {
	return name == tmpName || isNumbered(name, statePrefix) || isNumbered(name, outPrefix)
}

func isNumbered(name, prefix string) bool {
	digits, begins := strings.CutPrefix(name, prefix)
	return begins && digits != "" && strings.Trim(digits, "0123456789") == ""
}
