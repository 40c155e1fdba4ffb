package column

import (
	"math/bits"
	"slices"

	"headrace/api"
)

// As: whole numbers, laid in a way.
func As(way byte, l []int64) []byte {
	p := Uint([]byte{way}, uint64(len(l)))
	switch way {
	case Plain:
		return layPlain(p, l)
	case Delta:
		return layDelta(p, l)
	case Runs:
		return layRuns(p, l)
	case Packed:
		return layPacked(p, l)
	}
	return nil
}

// Ints: whole numbers, laid in the shortest way, of several the first.
func Ints(l []int64) []byte {
	best := As(Plain, l)
	for way := Delta; way <= Packed; way++ {
		if p := As(way, l); len(p) < len(best) {
			best = p
		}
	}
	return best
}

// ReadInts: the whole numbers of some bytes, in whatever way, at most MaxRows.
func ReadInts(p []byte) ([]int64, api.Errno) {
	return readList(p, readInts)
}

// readList is what read reads of all the bytes.
func readList[T any](p []byte, read func(r *Reader) []T) ([]T, api.Errno) {
	var l []T
	if !Try(p, func(r *Reader) { l = read(r) }) {
		return nil, api.ErrForm
	}
	return l, api.OK
}

// times is what next answers, n times.
func times[T any](n int, next func() T) []T {
	l := make([]T, n)
	for i := range l {
		l[i] = next()
	}
	return l
}

func readInts(r *Reader) []int64 {
	way := r.Byte()
	n := int(r.Uint(api.MaxRows))
	switch way {
	case Plain:
		return times(n, r.Int)
	case Delta:
		return readDelta(r, n)
	case Runs:
		return readRuns(r, n)
	case Packed:
		return readPacked(r, n)
	}
	r.Check(false)
	return nil
}

func layPlain(p []byte, l []int64) []byte {
	for _, n := range l {
		p = Int(p, n)
	}
	return p
}

func layDelta(p []byte, l []int64) []byte {
	var ahead int64
	for _, n := range l {
		p = Int(p, n-ahead)
		ahead = n
	}
	return p
}

func readDelta(r *Reader, n int) []int64 {
	var ahead int64
	return times(n, func() int64 {
		ahead += r.Int()
		return ahead
	})
}

func layRuns(p []byte, l []int64) []byte {
	for len(l) > 0 {
		run := 1
		for run < len(l) && l[run] == l[0] {
			run++
		}
		p = Uint(Int(p, l[0]), uint64(run-1))
		l = l[run:]
	}
	return p
}

func readRuns(r *Reader, n int) []int64 {
	l := make([]int64, 0, n)
	for len(l) < n {
		of := r.Int()
		run := 1 + int(r.Uint(uint64(n-len(l)-1)))
		for range run {
			l = append(l, of)
		}
	}
	return l
}

func layPacked(p []byte, l []int64) []byte {
	if len(l) == 0 {
		return p
	}
	least := slices.Min(l)
	w := bits.Len64(uint64(slices.Max(l) - least))
	p = append(Int(p, least), byte(w))
	packed := make([]byte, byteCount(len(l)*w))
	for i, n := range l {
		putBits(packed, i*w, uint64(n-least))
	}
	return append(p, packed...)
}

func readPacked(r *Reader, n int) []int64 {
	if n == 0 {
		return nil
	}
	least := r.Int()
	w := int(r.Byte())
	r.Check(w <= 64)
	packed := r.take(uint64(byteCount(n * w)))
	// A byte that all is used of has nothing behind.
	if used := n * w % 8; used > 0 {
		r.Check(packed[len(packed)-1]>>used == 0)
	}
	at := -w
	return times(n, func() int64 {
		at += w
		return least + int64(getBits(packed, at, w))
	})
}

// byteCount is how many bytes n bits take.
func byteCount(n int) int {
	return (n + 7) / 8
}

// putBits lays the bits of d from place at on, where noughts stand.
func putBits(p []byte, at int, d uint64) {
	for d != 0 {
		p[at/8] |= byte(d << (at % 8))
		room := 8 - at%8
		d >>= room
		at += room
	}
}

// getBits are the w bits from place at on.
func getBits(p []byte, at, w int) uint64 {
	var d uint64
	for got := 0; got < w; {
		place := at + got
		d |= uint64(p[place/8]>>(place%8)) << got
		got += 8 - place%8
	}
	// Of 64 bits the shift leaves nothing, and the mask is of all.
	return d & (1<<w - 1)
}
