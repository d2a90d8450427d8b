package graft_test

import (
	"slices"
	"strconv"
	"strings"
	"testing"

	"spinney/api"
	"spinney/graft"
	"spinney/letter"
)

// All calls end, and none panics.
func TestP9_AnyArguments(t *testing.T) {
	numbers := []int{least, -1, 0, 1, 2, 3, 7, 11, 12, 1 << 20, 1 << 30, 1 << 40, greatest}
	for _, n := range numbers {
		for _, m := range numbers {
			graft.New(n, m, 1)
			graft.New(3, n, m)
			g := made(t)
			for _, kind := range numbers {
				g.Hear(letter.Letter{Kind: kind, From: 1, To: 3, Life: 7, Turn: g.Turn(), Stamp: n, Taken: m, Writes: []api.Write{{}}})
				g.Hear(letter.Letter{Kind: kind, From: n, To: m, Life: n, Turn: m})
				g.Tell(n, m, api.Reach{"\xff"}, []api.Write{{}, {Id: api.Id{Dev: n, Seq: m}}})
				g.Left()
			}
			g.Move(n)
			g.Tell(m, n, nil, []api.Write{{}, {}})
		}
	}
}

// Many writes end soon, too.
func TestP9_ManyWrites(t *testing.T) {
	g := made(t)
	g.Hear(update(1, 1, 0))
	var l []api.Write
	for i := range 1 << 16 {
		l = append(l, api.Write{Id: api.Id{Dev: 1, Seq: i}})
	}
	if x := g.Tell(0, 0, ab, l); len(x.Writes) != 1<<16 || g.Left() != 1<<16 {
		t.Errorf("%d writes", len(x.Writes))
	}
	g.Hear(update(1, 2, 1<<15))
	slices.Reverse(l)
	if x := g.Tell(0, 0, ab, l); len(x.Writes) != 1<<15 || x.Writes[0].Id.Seq != 1<<15 || x.First != 1<<15+1 {
		t.Errorf("%d writes", len(x.Writes))
	}
}

// R1.
func TestP10_R1_IntHas64Bits(t *testing.T) {
	if strconv.IntSize != 64 {
		t.Errorf("an int has %d bits", strconv.IntSize)
	}
	g := made(t)
	hears(t, g, update(1, 1<<39, 0), graft.News)
	hears(t, g, update(1, 1<<38, 0), graft.Nothing)
	tells(t, g, "", offer(1, 0, 0, 1, 1<<39, ""))
}

// R2, R3, R4: there is one error alone; beside it stands nothing, and nothing has changed.
func TestP10_R4_NothingHasChanged(t *testing.T) {
	if g, e := graft.New(12, 12, 0); g != nil || e != api.ErrRange {
		t.Errorf("New: %d", e)
	}
	g := made(t)
	g.Hear(update(1, 5, 0))
	g.Tell(0, 0, ab, list("3/1"))
	for range 3 {
		if e := g.Move(3); e != api.ErrRange {
			t.Errorf("Move: %d", e)
		}
		is(t, g, true, 1, 1)
	}
}

// R5: a list that is nil means the same as one that is empty.
func TestP10_R5_EmptyAndNil(t *testing.T) {
	for _, r := range []api.Reach{nil, {}, ab[:0]} {
		for _, q := range [][]api.Write{nil, {}, list("3/1")[:0]} {
			g := made(t)
			if l := g.Tell(1, 1, r, q); len(l.Reach) != 0 || len(l.Writes) != 0 || !letter.Good(l) {
				t.Errorf("it tells %v", l)
			}
			g.Hear(update(1, 5, 0))
			if l := g.Tell(1, 1, r, q); !same(l, offer(1, 1, 1, 1, 5, "")) {
				t.Errorf("it tells %v", l)
			}
		}
	}
}

// own is a list in memory of its own, with others in its spare room.
func own(s string) []api.Write {
	l := list(s + " 9/9 9/9 9/9")
	for i := range l {
		o := &l[i].Op
		o.Key, o.A.Text = strings.Clone(o.Key), strings.Clone(o.A.Text)
	}
	return l[:len(l)-3]
}

// P19.4, and R6: what is handed in stays, with its spare room, and isn't kept; what was told may be changed.
func TestP19_4_Memory(t *testing.T) {
	g := made(t)
	r := append(make(api.Reach, 0, 9), "a", "b")
	l := g.Tell(0, 0, r, nil)
	clear(l.Reach[:cap(l.Reach)])
	if !slices.Equal(r[:9], append(api.Reach{"a", "b"}, make(api.Reach, 7)...)) {
		t.Error("the reach has changed")
	}
	x := g.Tell(0, 0, r, nil)
	r[0] = "z"
	if !slices.Equal(x.Reach, ab) {
		t.Error("an answer has changed with what was handed in")
	}
	u := update(1, 5, 0)
	u.Writes = own("1/1")
	g.Hear(u)
	clear(u.Writes)
	q := own("3/1 4/1 3/2")
	was := slices.Clone(q[:cap(q)])
	g.Tell(0, 0, ab, q)
	g.Hear(update(1, 6, 1))
	other := own("3/2 4/1 3/1")
	wasOther := slices.Clone(other[:cap(other)])
	a, b := g.Tell(0, 0, ab, other), g.Tell(0, 0, ab, other)
	if !slices.Equal(q[:cap(q)], was) || !slices.Equal(other[:cap(other)], wasOther) {
		t.Error("a queue has changed")
	}
	clear(q[:cap(q)])
	clear(other[:cap(other)])
	want := offer(1, 0, 0, 2, 6, "4/1 3/2")
	if !same(a, want) || !same(b, want) {
		t.Error("an answer has changed with what was handed in")
	}
	clear(a.Writes[:cap(a.Writes)])
	if !same(b, want) {
		t.Error("two answers share memory")
	}
	tells(t, g, "3/1 4/1 3/2", want)
}

// R8: another graft is nothing to this one; the same calls answer the same.
func TestP10_R8_TheSameAgain(t *testing.T) {
	a, b := made(t), made(t)
	a.Hear(update(1, 5, 0))
	a.Tell(0, 0, ab, list("3/1"))
	is(t, b, false, 1, 0)
	tells(t, b, "3/1", hello(1, 0))
	for range 3 {
		c := made(t)
		c.Hear(update(1, 5, 0))
		tells(t, c, "3/1", offer(1, 0, 0, 1, 5, "3/1"))
		tells(t, a, "3/1", offer(1, 0, 0, 1, 5, "3/1"))
	}
}
