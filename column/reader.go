package column

import "math"

// Reader reads what was laid; it gives up by a panic, which Try catches.
type Reader struct {
	rest   []byte
	within bool // its Try is under way
	gaveUp bool
}

// giveUp is what a reader throws. It tells whose it is: one Try may stand
// within another, and the inner one lets the outer reader's go on.
type giveUp struct{ by *Reader }

// Try: what a function reads of some bytes, all of them; false: they are none such.
func Try(p []byte, f func(r *Reader)) (whole bool) {
	if f == nil {
		return false
	}
	r := &Reader{rest: p, within: true}
	defer func() {
		*r = Reader{} // so that p isn't kept
		if thrown := recover(); thrown != nil && !r.threw(thrown) {
			panic(thrown)
		}
	}()
	f(r)
	// f may have caught what the reader threw.
	return len(r.rest) == 0 && !r.gaveUp
}

func (r *Reader) threw(thrown any) bool {
	g, ok := thrown.(giveUp)
	return ok && g.by == r
}

// mayRead is false of a nil reader, and of one whose Try is over: nobody would
// catch what these throw.
func (r *Reader) mayRead() bool {
	return r != nil && r.within
}

// Check gives up, if something isn't so.
func (r *Reader) Check(ok bool) {
	if ok || !r.mayRead() {
		return
	}
	r.gaveUp = true
	panic(giveUp{r})
}

// Uint, Int, Text: the next one; at most that, of at most so many bytes. Byte: the next byte.
func (r *Reader) Uint(most uint64) uint64 {
	if !r.mayRead() {
		return 0
	}
	n := r.groups()
	r.Check(n <= most)
	return n
}

func (r *Reader) Int() int64 {
	n := r.Uint(math.MaxUint64)
	return int64(n>>1) ^ -int64(n&1)
}

func (r *Reader) Text(most int) string {
	if !r.mayRead() {
		return ""
	}
	r.Check(most >= 0)
	return string(r.take(r.Uint(uint64(most))))
}

func (r *Reader) Byte() byte {
	if !r.mayRead() {
		return 0
	}
	return r.take(1)[0]
}

// groups is the next number, whatever it is.
func (r *Reader) groups() uint64 {
	var n uint64
	for shift := 0; ; shift += groupBits {
		b := r.Byte()
		group := uint64(b &^ goesOn)
		r.Check(group<<shift>>shift == group)
		n |= group << shift
		if b < goesOn {
			r.Check(b != 0 || shift == 0)
			return n
		}
	}
}

// take is the next n bytes, which are those that were handed in, not new ones.
func (r *Reader) take(n uint64) []byte {
	r.Check(n <= uint64(len(r.rest)))
	p := r.rest[:n]
	r.rest = r.rest[n:]
	return p
}
