package bough_test

import (
	"slices"
	"strconv"
	"strings"
	"testing"

	"spinney/api"
	"spinney/bough"
	"spinney/letter"
	"spinney/slate"
	"spinney/trellis"
)

// All calls end, and none panics.
func TestP9_AnyArguments(t *testing.T) {
	numbers := []int{least, -1, 0, 1, 2, 3, 5, 6, 12, 1000, 1001, 1 << 32, greatest}
	bad := ours()
	bad[2].Reach = api.Reach{"z", "a"}
	for _, n := range numbers {
		for _, m := range numbers {
			for _, x := range []trellis.Tree{nil, bad, ours(), {{Kind: n, Parent: m}}} {
				if y, e := bough.Open(x, n, m, slate.New()); (y == nil) != (e != api.OK) {
					t.Errorf("Open: %d", e)
				}
			}
		}
		for who := range 6 {
			x, _ := fresh(t, who)
			x.Write(api.Op{Kind: n, Key: "b", A: api.Value{Kind: api.Kind(n), Num: n, Text: "\xff"}})
			x.Write(api.Op{Kind: api.Put, Key: strings.Repeat("b", 5000), A: num(n)})
			x.Read(strings.Repeat("b", 5000))
			x.Watch(strings.Repeat("b", 5000))
			x.Move(n)
			x.Hear(letter.Letter{Kind: n})
			x.Hear(letter.Letter{Kind: letter.Update, From: 0, To: who, Life: 1, Turn: 1, Stamp: n, Start: n, End: n, Snap: true})
			x.Tick()
			x.Cut()
			x.Events()
			x.Report()
		}
	}
	for bits := range 256 { // slates of any bytes
		s := slate.New()
		s.Write(0, bits%2, slices.Repeat([]byte{byte(bits)}, 64))
		bough.Open(ours(), bits%6, 5, s)
	}
}

// R1.
func TestP10_R1_IntHas64Bits(t *testing.T) {
	if strconv.IntSize != 64 {
		t.Errorf("an int has %d bits", strconv.IntSize)
	}
	n, _ := fresh(t, 2)
	if e := n.Move(1 << 32); e != api.ErrRange {
		t.Errorf("Move: %d", e)
	}
	does(t, n, "put b 9223372036854775807", "2/1")
	does(t, n, "add b 1", "2/2")
	reads(t, n, "b", num(greatest))
}

// R2: of errors that hold the first that the words name.
func TestP10_R2_TheFirstError(t *testing.T) {
	d, s := fresh(t, 2)
	s.Arm(0)
	if _, e := d.Write(api.Op{Kind: api.Del, Key: "c c"}); e != api.ErrForm {
		t.Errorf("Write: %d", e)
	}
	if _, e := d.Write(op("del c")); e != api.ErrReach || d.Move(5) != api.ErrReach || d.Move(4) != api.ErrTree {
		t.Errorf("Write: %d", e)
	}
	h, s := fresh(t, 1)
	s.Arm(0)
	if _, e := h.Write(api.Op{}); e != api.ErrTree || h.Move(9) != api.ErrRange || h.Move(2) != api.ErrTree || h.Down() || d.Down() {
		t.Errorf("Write: %d", e)
	}
	x := down(t, 2)
	if _, e := x.Write(api.Op{}); e != api.ErrDown || x.Move(9) != api.ErrDown || x.Watch("c") != api.ErrDown {
		t.Errorf("Write: %d", e)
	}
}

// R3, R4: beside an error stands the zero value, and nothing has changed.
func TestP10_R4_NothingHasChanged(t *testing.T) {
	n, s := fresh(t, 2)
	does(t, n, "put b 1", "2/1")
	was, pending := n.Report(), s.Pending()
	for range 2 {
		n.Write(api.Op{})
		n.Write(op("put c 1"))
		n.Read("c")
		n.Move(2)
		n.Move(77)
		n.Watch("c")
		n.Hear(update(1, 2, 1, 9, 0, 5, 6, nil))
		if !alike(n.Report(), was) || s.Pending() != pending {
			t.Fatalf("it is %s", tell(n.Report()))
		}
	}
	ticks(t, n, hello(2, 1, 1, 0, "a.x", "b"))
}

// R5: a list that is nil means the same as one that is empty.
func TestP10_R5_EmptyAndNil(t *testing.T) {
	x := ours()
	x[5].Reach = api.Reach{}
	if n, e := bough.Open(x, 5, 5, slate.New()); e != api.OK || len(n.Report().Cells) != 0 {
		t.Errorf("Open: %d", e)
	}
	h, _ := fresh(t, 1)
	l := hello(5, 1, 1, 0)
	l.Reach, l.Writes = api.Reach{}, []api.Write{}
	hears(t, h, l, update(1, 5, 1, 1025, 0, 0, 0, nil))
	n, s := fresh(t, 2)
	s.Arm(0)
	y := update(1, 2, 1, 5, 0, 0, 0, nil)
	y.Writes, y.Cells = []api.Write{}, []api.Cell{}
	hears(t, n, y)
	if n.Down() {
		t.Error("an empty tail isn't as none")
	}
}

// P23.5, and R6: what is handed in stays, and isn't kept.
func TestP23_5_WhatIsHandedIn(t *testing.T) {
	x := ours()
	x[2].Reach = append(make(api.Reach, 0, 9), x[2].Reach...)
	n, e := bough.Open(x, 2, 5, slate.New())
	if e != api.OK || trellis.Text(x) != trellis.Text(ours()) || !slices.Equal(x[2].Reach[:9][2:], make(api.Reach, 7)) {
		t.Fatal("the tree has changed")
	}
	for i := range x {
		x[i].Kind, x[i].Parent = trellis.Hub, 9
		clear(x[i].Reach[:cap(x[i].Reach)])
	}
	clear(x)
	does(t, n, "put a.x 1", "2/1")
	if n.Move(3) != api.OK || n.Move(1) != api.OK || n.Move(5) != api.ErrReach {
		t.Error("another tree")
	}
	ticks(t, n, hello(2, 1, 3, 0, "a.x", "b"))
	l := snap(update(1, 2, 3, 5, 0, 4, 6, lines(5, "4/1 put b 1"), "4/2 put b 2"), cells("b", 9), roll4())
	same := snap(update(1, 2, 3, 5, 0, 4, 6, lines(5, "4/1 put b 1"), "4/2 put b 2"), cells("b", 9), roll4())
	hears(t, n, l)
	if !alike(l, same) {
		t.Fatal("the letter has changed")
	}
	clear(l.Lines)
	clear(l.Writes)
	clear(l.Cells)
	is(t, n, 4, 6, 6, "2/1", "4/2", "4/1", cells("a.x", 1, "b", 2))
	h, _ := fresh(t, 1)
	a, b := hello(2, 1, 1, 0, "a.x", "b"), offer(2, 1, 1, 0, 0, 1, 1, "2/1 put b 1")
	h.Hear(a)
	h.Hear(b)
	clear(a.Reach)
	clear(b.Writes)
	hears(t, h, offer(2, 1, 1, 0, 0, 2, 1), update(1, 2, 1, 1027, 1, 0, 0, nil, "2/1 put b 1"))
	if !slices.Equal(h.Report().Sessions[0].Reach, api.Reach{"a.x", "b"}) {
		t.Error("the reach was kept")
	}
}

func roll4() (l [api.MaxNodes]int) {
	l[4] = 0
	return l
}

// P23.5, and R6: what was answered may be changed behind the call, its spare room, too.
func TestP23_5_AnswersAreNewMemory(t *testing.T) {
	n := grown(t)
	n.Watch("b")
	n.Watch("a")
	for range 2 {
		r, again := n.Report(), n.Report()
		for _, l := range [][]api.Write{r.Queue, r.Tail, r.Known} {
			clear(l[:cap(l)])
		}
		clear(r.Cells[:cap(r.Cells)])
		clear(r.Sessions[0].Reach)
		clear(r.Sessions[:cap(r.Sessions)])
		if !alike(again, n.Report()) {
			t.Fatal("two reports share memory")
		}
		l := n.Tick()
		m := n.Tick()
		was := tell(m)
		clear(l[0].Writes[:cap(l[0].Writes)])
		clear(l[:cap(l)])
		if tell(m) != was {
			t.Fatal("two letters share memory")
		}
	}
	hears(t, n, offer(2, 1, 1, 2, 2, 2, 1026, "2/3 put b 1", "2/4 put a 8"), n3(n))
	u := n.Hear(offer(2, 1, 1, 2, 2, 4, 1026))
	clear(u[0].Lines[:cap(u[0].Lines)])
	clear(u[0].Writes[:cap(u[0].Writes)])
	e := n.Events()
	if !slices.Equal(e, cells("b", 1, "a", 8)) {
		t.Fatalf("events: %v", e)
	}
	clear(e[:cap(e)])
	hears(t, n, offer(2, 1, 1, 2, 2, 4, 1026, "2/5 put b 3"), update(1, 2, 1, 1029, 4, 2, 5, lines(2, "2/1 put a.x 3", "", "5/1 put b 4"), "4/4 put b 6", "2/2 put a.x 7", "2/3 put b 1", "2/5 put b 3"))
	if e := n.Events(); !slices.Equal(e, cells("b", 3)) {
		t.Fatalf("events: %v", e)
	}
}

func n3(n *bough.Node) letter.Letter {
	return update(1, 2, 1, 1027, 3, 2, 5, lines(2, "2/1 put a.x 3", "", "5/1 put b 4"), "4/4 put b 6", "2/2 put a.x 7", "2/3 put b 1")
}

// R8: two worlds in which the same happens are the same.
func TestP10_R8_TheSameAgain(t *testing.T) {
	a, b := newWorld(t, 7), newWorld(t, 7)
	for range 500 {
		a.step()
		b.step()
		for n := range a.nodes {
			if !alike(a.nodes[n].Report(), b.nodes[n].Report()) || !alike(a.air, b.air) {
				t.Fatal("another world")
			}
		}
	}
}
