package column

import (
	"slices"

	"headrace/api"
	"headrace/real"
)

// Texts: texts: those that there are, rising, each once, and which each one is.
func Texts(l []string) []byte {
	unlike := slices.Clone(l)
	slices.Sort(unlike)
	unlike = slices.Compact(unlike)
	p := Uint(nil, uint64(len(unlike)))
	for _, s := range unlike {
		p = Text(p, s)
	}
	places := make([]int64, len(l))
	for i, s := range l {
		place, _ := slices.BinarySearch(unlike, s)
		places[i] = int64(place)
	}
	return append(p, Ints(places)...)
}

// ReadTexts: the texts of some bytes, at most MaxRows, of at most MaxKey bytes each.
func ReadTexts(p []byte) ([]string, api.Errno) {
	return readList(p, readTexts)
}

func readTexts(r *Reader) []string {
	unlike := readUnlike(r)
	places := readInts(r)
	used := make([]bool, len(unlike))
	l := make([]string, len(places))
	for i, place := range places {
		r.Check(place >= 0 && place < int64(len(unlike)))
		used[place] = true
		l[i] = unlike[place]
	}
	r.Check(!slices.Contains(used, false))
	return l
}

// readUnlike are the texts that there are.
func readUnlike(r *Reader) []string {
	n := int(r.Uint(api.MaxRows))
	l := times(n, func() string { return r.Text(api.MaxKey) })
	for i := 1; i < n; i++ {
		r.Check(l[i-1] < l[i])
	}
	return l
}

// Reals: numbers, as the whole numbers that their bits are. ReadReals: the numbers of some bytes.
func Reals(l []float64) []byte {
	whole := make([]int64, len(l))
	for i, x := range l {
		whole[i] = int64(real.Bits(x))
	}
	return Ints(whole)
}

func ReadReals(p []byte) ([]float64, api.Errno) {
	return readList(p, readReals)
}

func readReals(r *Reader) []float64 {
	whole := readInts(r)
	l := make([]float64, len(whole))
	for i, n := range whole {
		l[i] = real.Of(uint64(n))
		r.Check(real.Bits(l[i]) == uint64(n))
	}
	return l
}
