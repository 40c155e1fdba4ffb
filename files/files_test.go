package files_test

import (
	"fmt"
	"math"
	"slices"
	"strings"
	"testing"

	"headrace/api"
	"headrace/files"
)

func newStore(t *testing.T, room int) *files.Store {
	t.Helper()
	s, e := files.New(room)
	if s == nil || e != api.OK {
		t.Fatalf("New(%d) = %v, %d", room, s, e)
	}
	return s
}

// holding is a store of these files, a name and what is in it, none of it durable.
func holding(t *testing.T, room int, l ...string) *files.Store {
	t.Helper()
	s := newStore(t, room)
	for i := 0; i < len(l); i += 2 {
		check(t, "Append", s.Append(l[i], []byte(l[i+1])), api.OK)
	}
	return s
}

func check(t *testing.T, what string, got, want api.Errno) {
	t.Helper()
	if got != want {
		t.Errorf("%s = %d, not %d", what, got, want)
	}
}

// told is all that a store whose power is on tells of its files.
func told(s *files.Store) string {
	var b strings.Builder
	for _, name := range s.List() {
		p, e := s.Read(name)
		fmt.Fprintf(&b, "%s=%s ", name, p)
		if e != api.OK {
			fmt.Fprintf(&b, "(%d) ", e)
		}
	}
	return strings.TrimSpace(b.String())
}

func checkTold(t *testing.T, what string, s *files.Store, want string) {
	t.Helper()
	if got := told(s); got != want {
		t.Errorf("%s: %s; not %s", what, got, want)
	}
}

// checkKept looks what stays of a store's files, if none of what isn't durable does.
func checkKept(t *testing.T, what string, s *files.Store, want string) {
	t.Helper()
	check(t, "Restart", s.Restart(nil), api.OK)
	checkTold(t, what, s, want)
}

// operations are the four that may be the one in which the power goes off, each on a file a.
var operations = []struct {
	name string
	do   func(s *files.Store) api.Errno
}{
	{"Append", func(s *files.Store) api.Errno { return s.Append("a", []byte("zw")) }},
	{"Sync", func(s *files.Store) api.Errno { return s.Sync("a") }},
	{"Delete", func(s *files.Store) api.Errno { return s.Delete("a") }},
	{"Rename", func(s *files.Store) api.Errno { return s.Rename("a", "b") }},
}

// P5.1: the room is 1 to MaxStore.
func TestNew(t *testing.T) {
	for _, room := range []int{1, 2, 1000, api.MaxStore - 1, api.MaxStore} {
		s := newStore(t, room)
		if !s.On() || s.Used() != 0 || s.Ops() != 0 || len(s.List()) != 0 {
			t.Errorf("New(%d): %v, %d, %d, %v", room, s.On(), s.Used(), s.Ops(), s.List())
		}
	}
	for _, room := range []int{0, -1, math.MinInt, api.MaxStore + 1, math.MaxInt} {
		if s, e := files.New(room); s != nil || e != api.ErrArg {
			t.Errorf("New(%d) = %v, %d", room, s, e)
		}
	}
}

// P5.1: a name is 1 to MaxName bytes of 0 to 9, a to z and the point.
func TestForm(t *testing.T) {
	for b := range 256 {
		want := strings.Contains("0123456789abcdefghijklmnopqrstuvwxyz.", string([]byte{byte(b)}))
		for _, name := range []string{string([]byte{byte(b)}), "a" + string([]byte{byte(b)}), string([]byte{byte(b)}) + "z"} {
			if got := files.Form(name); got != want {
				t.Errorf("Form(%q) = %v", name, got)
			}
		}
	}
	long := strings.Repeat("z", api.MaxName)
	for name, want := range map[string]bool{
		"": false, ".": true, "..": true, "seg.0.20": true, long: true, long[1:]: true, long + "z": false, long + long: false,
		long[1:] + "Z": false, "ä": false, "a b": false, "a/b": false, "a_b": false, "a-b": false, "a\x00": false, "\xff": false,
	} {
		if got := files.Form(name); got != want {
			t.Errorf("Form(%q) = %v", name, got)
		}
	}
}

// noNames are not of the form.
var noNames = []string{"", "A", "a b", "é", "a\x00", strings.Repeat("a", api.MaxName+1)}

// P5.1: bytes stand behind those that are there; files are made.
func TestAppend(t *testing.T) {
	long := strings.Repeat("9", api.MaxName)
	s := holding(t, 100, "b", "one", "a", "", "b", " two", ".", "x", long, "y", "b", "")
	checkTold(t, "six Appends", s, ".=x "+long+"=y a= b=one two")
	if s.Used() != 9 || s.Ops() != 6 {
		t.Errorf("Used, Ops = %d, %d", s.Used(), s.Ops())
	}
}

// P5.1: the files' names rise by their bytes.
func TestList(t *testing.T) {
	s := holding(t, 1, "b", "", "a", "", "ab", "", "10", "", "9", "", "a.b", "", "z", "", ".", "", "a0", "")
	if got, want := s.List(), []string{".", "10", "9", "a", "a.b", "a0", "ab", "b", "z"}; !slices.Equal(got, want) {
		t.Errorf("List = %q, not %q", got, want)
	}
}

// P5.1: a file that isn't there, be it that it went.
func TestNoSuchFile(t *testing.T) {
	s := holding(t, 100, "b", "x", "c", "y", "d", "z")
	check(t, "Delete", s.Delete("b"), api.OK)
	check(t, "Rename", s.Rename("c", "e"), api.OK)
	for _, name := range []string{"a", "b", "c", "cc", "f", "."} {
		p, e := s.Read(name)
		if len(p) != 0 || e != api.ErrNone {
			t.Errorf("Read(%s) = %q, %d", name, p, e)
		}
		check(t, "Sync", s.Sync(name), api.ErrNone)
		check(t, "Delete", s.Delete(name), api.ErrNone)
		check(t, "Rename", s.Rename(name, "d"), api.ErrNone)
		check(t, "Rename onto itself", s.Rename(name, name), api.ErrNone)
		check(t, "Spoil", s.Spoil(name, 0), api.ErrNone)
	}
	checkTold(t, "refused calls", s, "d=z e=y")
	if s.Ops() != 5 {
		t.Errorf("Ops = %d", s.Ops())
	}
}

// P5.1: a name that isn't of the form goes ahead of all else.
func TestNoName(t *testing.T) {
	s := holding(t, 1, "a", "x")
	checkAll := func() {
		t.Helper()
		for _, name := range noNames {
			check(t, "Append", s.Append(name, []byte("too long")), api.ErrArg)
			_, e := s.Read(name)
			check(t, "Read", e, api.ErrArg)
			check(t, "Sync", s.Sync(name), api.ErrArg)
			check(t, "Delete", s.Delete(name), api.ErrArg)
			check(t, "Rename from", s.Rename(name, "a"), api.ErrArg)
			check(t, "Rename to", s.Rename("a", name), api.ErrArg)
			check(t, "Rename of none to", s.Rename("b", name), api.ErrArg)
			check(t, "Spoil", s.Spoil(name, 0), api.ErrNone)
		}
	}
	checkAll()
	check(t, "Arm", s.Arm(1), api.OK)
	checkAll()
	check(t, "Sync", s.Sync("a"), api.ErrCrash)
	checkAll()
	if s.Ops() != 2 {
		t.Errorf("Ops = %d", s.Ops())
	}
	checkKept(t, "refused calls", s, "a=")
}

// P5.1, P5.2: while the power is off nothing is done, be the file there or not.
func TestPowerIsOff(t *testing.T) {
	s := holding(t, 2, "a", "xy")
	check(t, "Arm", s.Arm(1), api.OK)
	check(t, "Delete", s.Delete("a"), api.ErrCrash)
	for _, name := range []string{"a", "b"} {
		for range 2 {
			p, e := s.Read(name)
			if len(p) != 0 || e != api.ErrCrash {
				t.Errorf("Read(%s) = %q, %d", name, p, e)
			}
			check(t, "Append", s.Append(name, nil), api.ErrCrash)
			check(t, "Append of too much", s.Append(name, []byte("xyz")), api.ErrCrash)
			check(t, "Sync", s.Sync(name), api.ErrCrash)
			check(t, "Delete", s.Delete(name), api.ErrCrash)
			check(t, "Rename", s.Rename(name, "c"), api.ErrCrash)
			check(t, "Rename onto itself", s.Rename(name, name), api.ErrCrash)
		}
	}
	if s.On() || s.Used() != 2 || s.Ops() != 2 || !slices.Equal(s.List(), []string{"a"}) {
		t.Errorf("%v, %d, %d, %q", s.On(), s.Used(), s.Ops(), s.List())
	}
	check(t, "Restart", s.Restart([]int{-1}), api.OK)
	checkTold(t, "Restart", s, "a=xy")
}

// P5.1: the room may be full to its last byte.
func TestRoom(t *testing.T) {
	for _, room := range []int{1, 2, 10, api.MaxStore} {
		s := newStore(t, room)
		check(t, "Append of one too many", s.Append("a", make([]byte, room+1)), api.ErrFull)
		if len(s.List()) != 0 || s.Ops() != 0 {
			t.Errorf("%q was made, Ops = %d", s.List(), s.Ops())
		}
		check(t, "Append of all but one", s.Append("a", make([]byte, room-1)), api.OK)
		check(t, "Append of two", s.Append("b", make([]byte, 2)), api.ErrFull)
		check(t, "Append of one", s.Append("b", make([]byte, 1)), api.OK)
		check(t, "Append of one", s.Append("a", make([]byte, 1)), api.ErrFull)
		check(t, "Append of one", s.Append("c", make([]byte, 1)), api.ErrFull)
		check(t, "Append of none", s.Append("c", nil), api.OK)
		if s.Used() != room || s.Ops() != 3 {
			t.Errorf("Used, Ops = %d, %d", s.Used(), s.Ops())
		}
		check(t, "Delete", s.Delete("b"), api.OK)
		check(t, "Append of two", s.Append("a", make([]byte, 2)), api.ErrFull)
		check(t, "Append of one", s.Append("c", make([]byte, 1)), api.OK)
	}
}

// P5.1: room is there again behind a fall, and behind a rename onto a file.
func TestRoomAgain(t *testing.T) {
	s := holding(t, 4, "a", "xy", "b", "zw")
	check(t, "Sync", s.Sync("b"), api.OK)
	check(t, "Append", s.Append("c", []byte("p")), api.ErrFull)
	check(t, "Restart", s.Restart([]int{1}), api.OK)
	if s.Used() != 3 {
		t.Errorf("Used = %d", s.Used())
	}
	check(t, "Append", s.Append("c", []byte("pq")), api.ErrFull)
	check(t, "Append", s.Append("c", []byte("p")), api.OK)
	check(t, "Rename", s.Rename("a", "b"), api.OK)
	if s.Used() != 2 {
		t.Errorf("Used = %d", s.Used())
	}
	check(t, "Append", s.Append("b", []byte("123")), api.ErrFull)
	check(t, "Append", s.Append("b", []byte("12")), api.OK)
	checkTold(t, "rooms", s, "b=x12 c=p")
}

// P5.1: MaxFiles files, and no more; those that are there go on.
func TestMostFiles(t *testing.T) {
	s := newStore(t, 1000)
	for i := range api.MaxFiles {
		check(t, "Append", s.Append(fmt.Sprintf("f.%d", i), []byte("x")), api.OK)
	}
	check(t, "Append to one more", s.Append("g", nil), api.ErrFull)
	check(t, "Append to one more", s.Append("e", []byte("x")), api.ErrFull)
	if len(s.List()) != api.MaxFiles || s.Ops() != api.MaxFiles {
		t.Errorf("%d files, Ops = %d", len(s.List()), s.Ops())
	}
	check(t, "Append to one of them", s.Append("f.7", []byte("x")), api.OK)
	check(t, "Rename", s.Rename("f.7", "g"), api.OK)
	check(t, "Append to one more", s.Append("f.7", []byte("x")), api.ErrFull)
	check(t, "Rename onto another", s.Rename("f.8", "g"), api.OK)
	check(t, "Append to the last", s.Append("f.7", []byte("x")), api.OK)
	check(t, "Append to one more", s.Append("f.8", []byte("x")), api.ErrFull)
	check(t, "Delete", s.Delete("g"), api.OK)
	check(t, "Append to the last", s.Append("f.8", []byte("x")), api.OK)
	check(t, "Restart", s.Restart(nil), api.OK)
	check(t, "Append to one more", s.Append("h", nil), api.ErrFull)
}

// P5.1: what was synced stays, and nothing else.
func TestSync(t *testing.T) {
	s := holding(t, 100, "a", "xy", "b", "12", "c", "")
	check(t, "Sync", s.Sync("a"), api.OK)
	check(t, "Sync", s.Sync("c"), api.OK)
	check(t, "Append", s.Append("a", []byte("zw")), api.OK)
	check(t, "Append", s.Append("c", []byte("pq")), api.OK)
	checkTold(t, "ahead of the fall", s, "a=xyzw b=12 c=pq")
	checkKept(t, "behind the fall", s, "a=xy b= c=")
	check(t, "Append", s.Append("a", []byte("34")), api.OK)
	check(t, "Sync", s.Sync("a"), api.OK)
	check(t, "Sync", s.Sync("a"), api.OK)
	checkKept(t, "behind another", s, "a=xy34 b= c=")
}

// P5.1, P5.3: what goes stays gone, and a new one of its name has nothing of it.
func TestDelete(t *testing.T) {
	s := holding(t, 100, "a", "xy", "b", "12")
	check(t, "Sync", s.Sync("a"), api.OK)
	check(t, "Delete", s.Delete("a"), api.OK)
	check(t, "Delete again", s.Delete("a"), api.ErrNone)
	checkTold(t, "Delete", s, "b=12")
	check(t, "Append", s.Append("a", []byte("z")), api.OK)
	checkTold(t, "Append", s, "a=z b=12")
	check(t, "Delete", s.Delete("b"), api.OK)
	checkKept(t, "behind the fall", s, "a=")
}

// P5.1: of a file that has another name the same bytes are durable; a file that had it goes.
func TestRename(t *testing.T) {
	for _, c := range []struct{ from, to, want, kept string }{
		{"b", "c", "a=12 c=xyzw d=34", "a=12 c=xy d="},
		{"b", "0", "0=xyzw a=12 d=34", "0=xy a=12 d="},
		{"b", "e", "a=12 d=34 e=xyzw", "a=12 d= e=xy"},
		{"b", "a", "a=xyzw d=34", "a=xy d="},
		{"b", "d", "a=12 d=xyzw", "a=12 d=xy"},
		{"d", "a", "a=34 b=xyzw", "a= b=xy"},
		{"a", "d", "b=xyzw d=12", "b=xy d=12"},
		{"a", "a", "a=12 b=xyzw d=34", "a=12 b=xy d="},
		{"b", "b", "a=12 b=xyzw d=34", "a=12 b=xy d="},
		{"d", "d", "a=12 b=xyzw d=34", "a=12 b=xy d="},
	} {
		s := holding(t, 100, "a", "12", "b", "xy", "d", "34")
		check(t, "Sync", s.Sync("a"), api.OK)
		check(t, "Sync", s.Sync("b"), api.OK)
		check(t, "Append", s.Append("b", []byte("zw")), api.OK)
		check(t, "Rename", s.Rename(c.from, c.to), api.OK)
		what := "Rename " + c.from + " " + c.to
		checkTold(t, what, s, c.want)
		if s.Ops() != 7 {
			t.Errorf("%s: Ops = %d", what, s.Ops())
		}
		checkKept(t, what+", and a fall", s, c.kept)
		check(t, "Append", s.Append(c.to, []byte("+")), api.OK)
	}
}

// P5.1: of a longer file that a shorter one takes the place of nothing is left.
func TestRenameOntoALonger(t *testing.T) {
	s := holding(t, 100, "a", "1", "b", "some more")
	check(t, "Sync", s.Sync("b"), api.OK)
	check(t, "Rename", s.Rename("a", "b"), api.OK)
	check(t, "Append", s.Append("b", []byte("2")), api.OK)
	check(t, "Append", s.Append("a", []byte("3")), api.OK)
	checkTold(t, "Rename", s, "a=3 b=12")
	checkKept(t, "and a fall", s, "a= b=")
}

// P5.2: the power goes off in the n-th operation, whichever it is.
func TestArm(t *testing.T) {
	for n := 1; n <= 10; n++ {
		s := holding(t, 100, "a", "x")
		check(t, "Arm", s.Arm(n), api.OK)
		for i := 1; i <= 10; i++ {
			want := api.OK
			if i >= n {
				want = api.ErrCrash
			}
			var e api.Errno
			switch i % 4 {
			case 0:
				e = s.Append("a", []byte("x"))
			case 1:
				e = s.Rename("a", "b")
			case 2:
				e = s.Sync("b")
			case 3:
				e = s.Delete("b")
			}
			check(t, fmt.Sprintf("Arm(%d), operation %d", n, i), e, want)
			if s.On() != (i < n) || s.Ops() != 1+min(i, n) {
				t.Errorf("Arm(%d), operation %d: %v, %d", n, i, s.On(), s.Ops())
			}
		}
	}
}

// P5.2: an Append in which the power goes off is done, and not durable; all else isn't done.
func TestPowerGoesOff(t *testing.T) {
	for i, c := range []struct{ all, none string }{
		{"a=xyzw", "a=x"}, {"a=xy", "a=x"}, {"a=xy", "a=x"}, {"a=xy", "a=x"},
	} {
		for _, keep := range [][]int{{-1}, nil} {
			s := holding(t, 100, "a", "x")
			check(t, "Sync", s.Sync("a"), api.OK)
			check(t, "Append", s.Append("a", []byte("y")), api.OK)
			check(t, "Arm", s.Arm(1), api.OK)
			check(t, operations[i].name, operations[i].do(s), api.ErrCrash)
			if s.On() || s.Ops() != 4 {
				t.Errorf("%s: %v, %d", operations[i].name, s.On(), s.Ops())
			}
			check(t, "Restart", s.Restart(keep), api.OK)
			want := c.all
			if keep == nil {
				want = c.none
			}
			checkTold(t, fmt.Sprintf("%s, Restart(%v)", operations[i].name, keep), s, want)
			if !s.On() || s.Ops() != 4 {
				t.Errorf("%s, Restart: %v, %d", operations[i].name, s.On(), s.Ops())
			}
		}
	}
}

// P5.2, P5.3: a file that is made as the power goes off is there.
func TestPowerGoesOffInTheFirstAppend(t *testing.T) {
	for _, c := range []struct {
		keep []int
		want string
	}{{nil, "a=12 b="}, {[]int{0, 1}, "a=12 b=x"}, {[]int{0, -1}, "a=12 b=xy"}} {
		s := holding(t, 100, "a", "12")
		check(t, "Sync", s.Sync("a"), api.OK)
		check(t, "Arm", s.Arm(1), api.OK)
		check(t, "Append", s.Append("b", []byte("xy")), api.ErrCrash)
		if s.Used() != 4 || !slices.Equal(s.List(), []string{"a", "b"}) {
			t.Errorf("Used, List = %d, %q", s.Used(), s.List())
		}
		check(t, "Restart", s.Restart(c.keep), api.OK)
		checkTold(t, fmt.Sprintf("Restart(%v)", c.keep), s, c.want)
	}
}

// P5.2: a rename onto a file in which the power goes off leaves both.
func TestPowerGoesOffInRename(t *testing.T) {
	s := holding(t, 100, "a", "12", "b", "xy")
	check(t, "Arm", s.Arm(1), api.OK)
	check(t, "Rename", s.Rename("a", "b"), api.ErrCrash)
	check(t, "Restart", s.Restart([]int{-1, -1}), api.OK)
	checkTold(t, "Rename", s, "a=12 b=xy")
}

// P5.2: what is refused, and what isn't one of the four, doesn't count.
func TestArmPassesOver(t *testing.T) {
	s := holding(t, 3, "a", "x")
	check(t, "Arm", s.Arm(2), api.OK)
	for range 3 {
		check(t, "Append of a name", s.Append("A", nil), api.ErrArg)
		check(t, "Append of too much", s.Append("a", []byte("xyz")), api.ErrFull)
		check(t, "Sync", s.Sync("b"), api.ErrNone)
		check(t, "Delete", s.Delete("b"), api.ErrNone)
		check(t, "Rename", s.Rename("b", "a"), api.ErrNone)
		check(t, "Rename", s.Rename("a", ""), api.ErrArg)
		check(t, "Spoil", s.Spoil("a", 0), api.OK)
		check(t, "Spoil", s.Spoil("a", 8), api.ErrArg)
		_, e := s.Read("a")
		check(t, "Read", e, api.OK)
		s.List()
	}
	if !s.On() || s.Ops() != 1 {
		t.Errorf("%v, %d", s.On(), s.Ops())
	}
	check(t, "Sync", s.Sync("a"), api.OK)
	check(t, "Sync", s.Sync("b"), api.ErrNone)
	check(t, "Sync", s.Sync("a"), api.ErrCrash)
}

// P5.2: the last Arm holds; 0 takes it away; below 0 it is none, and changes nothing.
func TestArmAgain(t *testing.T) {
	s := holding(t, 100, "a", "x")
	check(t, "Arm", s.Arm(1), api.OK)
	check(t, "Arm", s.Arm(3), api.OK)
	check(t, "Sync", s.Sync("a"), api.OK)
	check(t, "Arm", s.Arm(0), api.OK)
	for range 5 {
		check(t, "Sync", s.Sync("a"), api.OK)
	}
	check(t, "Arm", s.Arm(2), api.OK)
	check(t, "Arm", s.Arm(-1), api.ErrArg)
	check(t, "Arm", s.Arm(math.MinInt), api.ErrArg)
	check(t, "Sync", s.Sync("a"), api.OK)
	check(t, "Sync", s.Sync("a"), api.ErrCrash)
	check(t, "Restart", s.Restart(nil), api.OK)
	check(t, "Arm", s.Arm(math.MaxInt), api.OK)
	check(t, "Sync", s.Sync("a"), api.OK)
	if s.Ops() != 10 {
		t.Errorf("Ops = %d", s.Ops())
	}
}

// P5.3: behind a restart nothing is armed, whether the power was off or on.
func TestRestartDisarms(t *testing.T) {
	s := holding(t, 100, "a", "x")
	check(t, "Arm", s.Arm(1), api.OK)
	check(t, "Restart", s.Restart(nil), api.OK)
	check(t, "Sync", s.Sync("a"), api.OK)
	check(t, "Arm", s.Arm(1), api.OK)
	check(t, "Sync", s.Sync("a"), api.ErrCrash)
	check(t, "Arm", s.Arm(1), api.OK)
	check(t, "Arm", s.Arm(-1), api.ErrArg)
	if s.On() {
		t.Error("Arm has put the power on")
	}
	check(t, "Restart", s.Restart(nil), api.OK)
	for range 3 {
		check(t, "Sync", s.Sync("a"), api.OK)
	}
	if !s.On() || s.Ops() != 6 {
		t.Errorf("%v, %d", s.On(), s.Ops())
	}
}

// P5.3: keep says, file by file, how many of the bytes that aren't durable stay.
func TestRestart(t *testing.T) {
	for _, c := range []struct {
		keep []int
		want string
	}{
		{nil, "a=12 b= c=xyz"},
		{[]int{}, "a=12 b= c=xyz"},
		{[]int{0, 0, 0}, "a=12 b= c=xyz"},
		{[]int{1}, "a=123 b= c=xyz"},
		{[]int{3}, "a=12345 b= c=xyz"},
		{[]int{4}, "a=12345 b= c=xyz"},
		{[]int{-1}, "a=12345 b= c=xyz"},
		{[]int{math.MaxInt, math.MaxInt, math.MaxInt}, "a=12345 b=pq c=xyz"},
		{[]int{math.MinInt, math.MinInt, math.MinInt}, "a=12345 b=pq c=xyz"},
		{[]int{2, 1}, "a=1234 b=p c=xyz"},
		{[]int{0, 2, 5}, "a=12 b=pq c=xyz"},
		{[]int{0, -7, -1}, "a=12 b=pq c=xyz"},
		{[]int{2, 1, 0, 9, -1, 4}, "a=1234 b=p c=xyz"},
	} {
		s := holding(t, 100, "c", "xyz", "b", "pq", "a", "12")
		check(t, "Sync", s.Sync("a"), api.OK)
		check(t, "Sync", s.Sync("c"), api.OK)
		check(t, "Append", s.Append("a", []byte("345")), api.OK)
		keep := slices.Clone(c.keep)
		check(t, "Restart", s.Restart(keep), api.OK)
		what := fmt.Sprintf("Restart(%v)", c.keep)
		checkTold(t, what, s, c.want)
		if !slices.Equal(keep, c.keep) || s.Ops() != 6 {
			t.Errorf("%s: %v, %d", what, keep, s.Ops())
		}
		checkKept(t, what+" is durable", s, c.want)
		check(t, "Append", s.Append("a", []byte("+")), api.OK)
		checkKept(t, what+" and an Append", s, c.want)
	}
	s := holding(t, 100, "a", "xy")
	check(t, "Sync", s.Sync("a"), api.OK)
	check(t, "Append", s.Append("a", []byte("zw")), api.OK)
	check(t, "Restart", s.Restart([]int{1}), api.OK)
	checkTold(t, "the chapter's example", s, "a=xyz")
}

// P5.3: that files were made, deleted and renamed is durable; a place in keep is one in List behind all that.
func TestRestartOfNames(t *testing.T) {
	s := holding(t, 100, "a", "12", "b", "34", "c", "56")
	check(t, "Delete", s.Delete("b"), api.OK)
	check(t, "Rename", s.Rename("a", "d"), api.OK)
	check(t, "Append", s.Append("e", []byte("78")), api.OK)
	check(t, "Restart", s.Restart([]int{0, 1, 2}), api.OK)
	checkTold(t, "Restart", s, "c= d=1 e=78")
	checkKept(t, "none is kept", s, "c= d=1 e=78")
}

// P5.3: bytes that were lost don't come again.
func TestRestartLoses(t *testing.T) {
	s := holding(t, 100, "a", "xyzw")
	check(t, "Restart", s.Restart([]int{1}), api.OK)
	check(t, "Append", s.Append("a", []byte("1")), api.OK)
	check(t, "Restart", s.Restart([]int{-1}), api.OK)
	checkTold(t, "Restart", s, "a=x1")
	if s.Used() != 2 {
		t.Errorf("Used = %d", s.Used())
	}
}

// P5.3: each bit of a file, and none beside.
func TestSpoil(t *testing.T) {
	s := holding(t, 100, "a", "\x00\xff\x55", "b", "")
	for bit := range 24 {
		want := []byte("\x00\xff\x55")
		want[bit/8] ^= 1 << (bit % 8)
		check(t, "Spoil", s.Spoil("a", bit), api.OK)
		if got, _ := s.Read("a"); string(got) != string(want) {
			t.Errorf("Spoil(a, %d): %x, not %x", bit, got, want)
		}
		check(t, "Spoil", s.Spoil("a", bit), api.OK)
	}
	for _, bit := range []int{-1, -8, math.MinInt, 24, 25, math.MaxInt} {
		check(t, "Spoil", s.Spoil("a", bit), api.ErrArg)
		check(t, "Spoil of no file", s.Spoil("c", bit), api.ErrNone)
	}
	check(t, "Spoil of no bytes", s.Spoil("b", 0), api.ErrArg)
	checkTold(t, "Spoil", s, "a=\x00\xff\x55 b=")
	if s.Ops() != 2 {
		t.Errorf("Ops = %d", s.Ops())
	}
}

// P5.3: bits are turned with the power off, too; what is durable stays so.
func TestSpoilWithoutPower(t *testing.T) {
	s := holding(t, 100, "a", "x")
	check(t, "Sync", s.Sync("a"), api.OK)
	check(t, "Append", s.Append("a", []byte("y")), api.OK)
	check(t, "Arm", s.Arm(1), api.OK)
	check(t, "Spoil", s.Spoil("a", 0), api.OK)
	check(t, "Delete", s.Delete("a"), api.ErrCrash)
	check(t, "Spoil", s.Spoil("a", 8), api.OK)
	check(t, "Spoil", s.Spoil("a", 16), api.ErrArg)
	check(t, "Spoil", s.Spoil("b", 0), api.ErrNone)
	if s.On() {
		t.Error("the power is on")
	}
	check(t, "Restart", s.Restart([]int{-1}), api.OK)
	checkTold(t, "Spoil", s, "a=yx")
	check(t, "Append", s.Append("a", []byte("z")), api.OK)
	checkKept(t, "Spoil", s, "a=yx")
}

// P5.3: a nil store has nothing, whatever it is asked.
func TestNil(t *testing.T) {
	var s *files.Store
	for range 2 {
		for _, name := range append([]string{"a"}, noNames...) {
			if p, e := s.Read(name); len(p) != 0 || e != api.ErrNone {
				t.Errorf("Read = %q, %d", p, e)
			}
			check(t, "Append", s.Append(name, []byte("x")), api.ErrNone)
			check(t, "Sync", s.Sync(name), api.ErrNone)
			check(t, "Delete", s.Delete(name), api.ErrNone)
			check(t, "Rename", s.Rename(name, "b"), api.ErrNone)
			check(t, "Rename", s.Rename("b", name), api.ErrNone)
			check(t, "Spoil", s.Spoil(name, -1), api.ErrNone)
		}
		check(t, "Arm", s.Arm(1), api.ErrNone)
		check(t, "Arm", s.Arm(-1), api.ErrNone)
		check(t, "Restart", s.Restart(nil), api.ErrNone)
		check(t, "Restart", s.Restart([]int{1}), api.ErrNone)
		if s.On() || s.Used() != 0 || s.Ops() != 0 || len(s.List()) != 0 {
			t.Errorf("%v, %d, %d, %q", s.On(), s.Used(), s.Ops(), s.List())
		}
	}
}

// What is handed in isn't kept, and what is answered is new.
func TestMemory(t *testing.T) {
	s := newStore(t, 100)
	p := append(make([]byte, 0, 50), "xy"...)
	check(t, "Append", s.Append("a", p), api.OK)
	copy(p, "--")
	check(t, "Append", s.Append("a", []byte("zw")), api.OK)
	if string(p[:4:4]) != "--\x00\x00" {
		t.Errorf("what was handed in is %q", p[:4])
	}
	checkTold(t, "Append", s, "a=xyzw")
	read, _ := s.Read("a")
	clear(read)
	_ = append(read[:1], "123456789"...)
	checkTold(t, "Read", s, "a=xyzw")
	read, _ = s.Read("a")
	check(t, "Spoil", s.Spoil("a", 0), api.OK)
	check(t, "Append", s.Append("a", []byte("v")), api.OK)
	if string(read) != "xyzw" {
		t.Errorf("what was read is %q", read)
	}
	l := s.List()
	l[0] = "b"
	checkTold(t, "List", s, "a=yyzwv")
}

// P1, P2: two stores do as they are told, each for itself.
func TestStoresApart(t *testing.T) {
	a, b := holding(t, 10, "x", "1"), holding(t, 20, "y", "2")
	check(t, "Arm", a.Arm(1), api.OK)
	check(t, "Sync", b.Sync("y"), api.OK)
	check(t, "Sync", a.Sync("x"), api.ErrCrash)
	check(t, "Append", b.Append("x", []byte("3")), api.OK)
	check(t, "Restart", a.Restart(nil), api.OK)
	checkTold(t, "the one", a, "x=")
	checkTold(t, "the other", b, "x=3 y=2")
}
