package commit

import (
	"bytes"

	"headrace/api"
	"headrace/ledger"
	"headrace/page"
)

// layOut lays changes as a page, or, where that is longer than is read, as the
// pages of the first and of the second half of them. Its error is ledger.Read's
// of what couldn't be read back: what is committed must be there behind a fall.
func layOut(l []api.Change) ([]byte, api.Errno) {
	p := ledger.Lay(l)
	_, err := ledger.Read(p)
	if err == api.OK {
		return p, api.OK
	}
	if len(l) < 2 {
		return nil, err
	}
	first, err := layOut(l[:len(l)/2])
	if err != api.OK {
		return nil, err
	}
	second, err := layOut(l[len(l)/2:])
	if err != api.OK {
		return nil, err
	}
	return append(first, second...), api.OK
}

// readOut are the changes that were laid so.
func readOut(p []byte) ([]api.Change, api.Errno) {
	// What isn't longer than a body may be wouldn't have been parted.
	if len(p) <= api.MaxPage {
		return ledger.Read(p)
	}
	var all []api.Change
	for at := 0; at < len(p); {
		_, _, behind, err := page.Read(p, at)
		if err != api.OK {
			return nil, err
		}
		l, err := ledger.Read(p[at:behind])
		if err != api.OK {
			return nil, err
		}
		all, at = append(all, l...), behind
	}
	// Pages may be whole, and yet not those that are laid of these changes.
	if laid, _ := layOut(all); !bytes.Equal(laid, p) {
		return nil, api.ErrForm
	}
	return all, api.OK
}
