package stream_test

import (
	"bytes"
	"encoding/binary"
	"math"
	"testing"

	"headrace/api"
	"headrace/column"
	"headrace/stream"
)

// configBytes are a config's, laid apart from the program, whether or not it has a form.
func configBytes(c api.Config) []byte {
	p := []byte{c.Kind}
	for _, n := range []int64{c.Size, c.Step, c.Late, c.Skew, int64(c.Parts)} {
		p = binary.AppendVarint(p, n)
	}
	return binary.AppendUvarint(p, c.Cut)
}

// readConfig is what ReadConfig reads of all these bytes.
func readConfig(p []byte) (api.Config, bool) {
	var c api.Config
	ok := column.Try(p, func(r *column.Reader) { c = stream.ReadConfig(r) })
	return c, ok
}

// someConfigs are configs at and within all limits.
func someConfigs() []api.Config {
	l := configs()
	for _, c := range configs() {
		for _, cut := range []uint64{1, 127, 128, api.MaxOffset - 1, api.MaxOffset} {
			c.Cut = cut
			l = append(l, c)
		}
	}
	for parts := 1; parts <= api.MaxParts; parts++ {
		l = append(l, with(sliding(64, 4), math.MinInt64, api.MaxSize, parts), with(session(63), -64, 65, parts))
	}
	return l
}

// P17.4: bytes that are written out.
func TestConfigWrittenOut(t *testing.T) {
	for _, x := range []struct {
		c    api.Config
		want string
	}{
		{tumbling(10), "\x00\x14\x00\x00\x00\x02\x00"},
		{api.Config{Kind: api.Sliding, Size: 64, Step: 4, Late: -1, Skew: 63, Parts: 8, Cut: 300}, "\x01\x80\x01\x08\x01\x7e\x10\xac\x02"},
		{api.Config{Kind: api.Session, Size: api.MaxSize, Late: -65, Parts: 3, Cut: 127}, "\x02\x80\x80\x80\x80\x08\x00\x81\x01\x00\x06\x7f"},
		{api.Config{}, "\x00\x00\x00\x00\x00\x00\x00"},
		{api.Config{Kind: 255, Size: -1, Step: math.MinInt64, Parts: -2, Cut: math.MaxUint64}, "\xff\x01\xff\xff\xff\xff\xff\xff\xff\xff\xff\x01\x00\x00\x03\xff\xff\xff\xff\xff\xff\xff\xff\xff\x01"},
	} {
		if p := stream.Config(nil, x.c); string(p) != x.want {
			t.Errorf("%+v: %x, not %x", x.c, p, x.want)
		}
	}
}

// P17.4: Config lays behind other bytes, and what it laid is read.
func TestConfig(t *testing.T) {
	for _, c := range append(someConfigs(), formless()...) {
		want := configBytes(c)
		for _, before := range []string{"", "x", "some bytes"} {
			for _, room := range []int{0, 1, 3, 200} {
				p := append(make([]byte, 0, len(before)+room), before...)
				if q := stream.Config(p, c); string(q) != before+string(want) || string(p) != before {
					t.Fatalf("%+v behind %q: %x, not %x", c, before, q, want)
				}
			}
		}
	}
	for _, c := range someConfigs() {
		if got, ok := readConfig(configBytes(c)); got != c || !ok {
			t.Errorf("%+v is read as %+v, %v", c, got, ok)
		}
	}
}

// P17.4: ReadConfig reads one, and leaves what is behind it.
func TestReadConfigLeavesTheRest(t *testing.T) {
	l := someConfigs()
	var p []byte
	for _, c := range l {
		p = append(stream.Config(p, c), 7)
	}
	before := bytes.Clone(p)
	ok := column.Try(p, func(r *column.Reader) {
		for _, c := range l {
			if got := stream.ReadConfig(r); got != c || r.Byte() != 7 {
				t.Errorf("%+v is read as %+v", c, got)
			}
		}
	})
	if !ok || !bytes.Equal(p, before) {
		t.Errorf("read: %v; changed: %v", ok, !bytes.Equal(p, before))
	}
}

// P17.4: ReadConfig gives up at one without window.Form, at its beginnings, and at what is no number.
func TestReadConfigGivesUp(t *testing.T) {
	gaveUp := func(what any, p []byte) {
		t.Helper()
		behind := false
		ok := column.Try(p, func(r *column.Reader) {
			stream.ReadConfig(r)
			behind = true
		})
		if ok || behind {
			t.Errorf("%+v: %x is read", what, p)
		}
	}
	for _, c := range formless() {
		gaveUp(c, configBytes(c))
	}
	for _, c := range someConfigs() {
		p := configBytes(c)
		for n := range p {
			gaveUp(c, p[:n])
		}
	}
	for _, p := range []string{
		"\x03\x14\x00\x00\x00\x02\x00",
		"\x00\x94\x00\x00\x00\x00\x02\x00",
		"\x00\x14\x00\x00\x00\x82\x80\x80\x80\x20\x00",
		"\x00\x14\x00\x00\x00\x82\x80\x80\x80\x80\x80\x80\x80\x80\x02\x00",
		"\x00\x14\x00\x00\x00\x02\xff\xff\xff\xff\xff\xff\xff\xff\xff\x03",
	} {
		gaveUp("written out", []byte(p))
	}
}

// P1: a nil reader, and one whose Try is over.
func TestReadConfigOfNoReader(t *testing.T) {
	var over *column.Reader
	column.Try(nil, func(r *column.Reader) { over = r })
	for _, r := range []*column.Reader{nil, over, {}} {
		if c := stream.ReadConfig(r); c != (api.Config{}) {
			t.Errorf("%+v is read", c)
		}
	}
}

// P2: what Config laid may be written over.
func TestConfigIsNotKept(t *testing.T) {
	p := stream.Config(nil, tumbling(10))
	clear(p[:cap(p)])
	if q := stream.Config(nil, tumbling(10)); !bytes.Equal(q, configBytes(tumbling(10))) {
		t.Errorf("%x", q)
	}
}
