package fork_test

import (
	"slices"
	"strconv"
	"strings"
	"testing"

	"spinney/api"
	"spinney/fork"
	"spinney/letter"
)

// All calls end, and none panics.
func TestP9_AnyArguments(t *testing.T) {
	numbers := []int{least, -1, 0, 1, 2, 3, 11, 12, 1000, 1001, 1 << 20, 1 << 40, greatest}
	for _, n := range numbers {
		for _, m := range numbers {
			fork.New(n, m, 0)
			fork.New(1, m, n)
			f := made(t, 2)
			f.Hear(hello(3, 1, 1, 0))
			for kind := range 6 {
				l := letter.Letter{Kind: kind, From: 3, To: 1, Life: 1, Turn: 1, First: n, Low: m, Prefix: n, Stamp: m, Writes: list("3/1 3/2")}
				f.Hear(l)
				f.Wants(l)
				l.From, l.To, l.Life, l.Turn = n, 1, m, n
				f.Hear(l)
				f.Wants(l)
			}
			f.Took(3, n)
			f.Took(3, m)
			f.Wants(offer(3, 1, 1, 0, 0, 1, 0, "3/1"))
			f.Stamp(n)
			f.Session(m)
			f.Low(n)
			f.Floor(m)
			f.Children()
			f.Tick()
		}
	}
}

// What is taken doesn't fall, however many are told.
func TestP9_ManyTaken(t *testing.T) {
	f := made(t, 2)
	f.Hear(hello(3, 1, 1, 0))
	f.Took(3, greatest)
	last := 0
	for range 5 {
		f.Took(3, greatest)
		s, _ := f.Session(3)
		if s.Taken < last || s.Taken < greatest {
			t.Errorf("taken: %d", s.Taken)
		}
		last = s.Taken
		for _, first := range []int{1, 1 << 40, 0, -1, least, least + 1, greatest} {
			wants(t, f, offer(3, 1, 1, 0, 0, first, 0, "3/1"), "")
		}
	}
}

// R1.
func TestP10_R1_IntHas64Bits(t *testing.T) {
	if strconv.IntSize != 64 {
		t.Errorf("an int has %d bits", strconv.IntSize)
	}
	f, _ := fork.New(1, 1, 1<<40)
	f.Hear(hello(3, 1, 1, 0))
	if n, _ := f.Stamp(3); n != 1<<40+1 {
		t.Errorf("Stamp: %d", n)
	}
}

// R2, R3, R4: of two errors the first; beside it stands nothing, and nothing has changed.
func TestP10_R4_NothingHasChanged(t *testing.T) {
	if f, e := fork.New(12, 0, -1); f != nil || e != api.ErrRange {
		t.Errorf("New: %d", e)
	}
	f := made(t, 9)
	f.Hear(hello(3, 1, 1, 5))
	for range 2 {
		if f.Took(4, -1) != api.ErrNone || f.Took(3, -1) != api.ErrRange {
			t.Error("Took")
		}
		if n, e := f.Stamp(4); n != 0 || e != api.ErrNone {
			t.Error("Stamp")
		}
		has(t, f, session(3, 1, 1, 5, 0, 1024, 0, false))
	}
}

// R5: a list that is nil means the same as one that is empty.
func TestP10_R5_EmptyAndNil(t *testing.T) {
	for _, r := range []api.Reach{nil, {}, ab[:0]} {
		for _, w := range [][]api.Write{nil, {}, list("3/1")[:0]} {
			f := made(t, 9)
			l := hello(3, 1, 1, 0)
			l.Reach = r
			hears(t, f, l, fork.Begun)
			l = offer(3, 1, 1, 0, 0, 1, 1, "")
			l.Writes = w
			hears(t, f, l, fork.Offered)
			wants(t, f, l, "")
			want := session(3, 1, 1, 0, 0, 1024, 0, true)
			want.Reach = nil
			has(t, f, want)
		}
	}
}

// own is a list in memory of its own, with others in its spare room.
func own(s string) []api.Write {
	l := list(s + " 9/9 9/9 9/9")
	for i := range l {
		o := &l[i].Op
		o.Key, o.A.Text = strings.Clone(o.Key), strings.Clone(o.A.Text)
	}
	return l[:len(l)-3]
}

// P20.4, and R6: what is handed in stays, with its spare room, and isn't kept; what was answered may be changed.
func TestP20_4_Memory(t *testing.T) {
	f := made(t, 1)
	l := hello(3, 1, 1, 0)
	l.Reach = append(make(api.Reach, 0, 9), "a", "b")
	f.Hear(l)
	x, y := first(f.Session(3)), first(f.Session(3))
	clear(x.Reach[:cap(x.Reach)])
	if !slices.Equal(l.Reach[:9], append(api.Reach{"a", "b"}, make(api.Reach, 7)...)) || !slices.Equal(y.Reach, ab) {
		t.Error("the reach has changed")
	}
	l.Reach[0] = "z"
	has(t, f, session(3, 1, 1, 0, 0, 1024, 0, false))
	o := offer(3, 1, 1, 0, 0, 1, 0, "")
	o.Writes = own("3/1 3/2 3/3")
	was := slices.Clone(o.Writes[:cap(o.Writes)])
	f.Hear(o)
	f.Took(3, 1)
	a, b := f.Wants(o), f.Wants(o)
	clear(a[:cap(a)])
	if !slices.Equal(o.Writes[:cap(o.Writes)], was) || !slices.Equal(b, list("3/2 3/3")) {
		t.Error("the writes have changed")
	}
	clear(o.Writes[:cap(o.Writes)])
	if !slices.Equal(b, list("3/2 3/3")) {
		t.Error("an answer has changed with what was handed in")
	}
	c := f.Children()
	clear(c[:cap(c)])
	has(t, f, session(3, 1, 1, 0, 0, 1024, 1, false))
	g := f.Tick()
	if !slices.Equal(g, []int{3}) {
		t.Errorf("gone: %v", g)
	}
	clear(g[:cap(g)])
	has(t, f)
}

func first(s fork.Session, e api.Errno) fork.Session { return s }

// R8: another fork is nothing to this one; the same calls answer the same.
func TestP10_R8_TheSameAgain(t *testing.T) {
	a, b := made(t, 3), made(t, 3)
	for child := 11; child > 1; child-- {
		a.Hear(hello(child, 1, 1, child))
	}
	has(t, b)
	for range 20 {
		if !slices.Equal(a.Children(), []int{2, 3, 4, 5, 6, 7, 8, 9, 10, 11}) {
			t.Errorf("Children: %v", a.Children())
		}
	}
	a.Tick()
	a.Tick()
	a.Hear(hello(5, 1, 1, 0))
	if gone := a.Tick(); !slices.Equal(gone, []int{2, 3, 4, 6, 7, 8, 9, 10, 11}) {
		t.Errorf("gone: %v", gone)
	}
}
