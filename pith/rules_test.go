package pith_test

import (
	"slices"
	"strconv"
	"strings"
	"testing"
	"unsafe"

	"spinney/api"
	"spinney/frame"
	"spinney/pith"
	"spinney/roll"
	"spinney/spine"
)

// All calls end, and none panics.
func TestP9_AnyArguments(t *testing.T) {
	numbers := []int{least, -1, 0, 1, 3, 12, 400, 401, 4096, 4097, 1 << 32, greatest}
	bad := []api.Write{{}, {Id: api.Id{Dev: -1, Seq: greatest}, Op: api.Op{Kind: 9, Key: "\xff"}}, write("1/1 put c 1")}
	var all []pith.State
	for _, n := range numbers {
		all = append(all, pith.State{Node: n, Parent: n}, pith.State{Node: 3, Room: n, Life: n, Reach: api.Reach{"b", "a"}, Queue: bad, Tail: bad}, pith.State{Node: n, Room: 8, Stem: spine.Stem{Base: n, End: -n, Lasts: roll.Lasts{n, n}, Lines: []roll.Line{{At: n}}, Cells: []api.Cell{{}}}})
		pith.New(n, n, n, api.Reach{"\xff"})
	}
	for _, s := range append(all, some(), rootState()) {
		pith.Good(s)
		pith.Lasts(s)
		pith.Next(s)
		pith.TakeState(pith.PutState(s))
		for kind := -1; kind < 9; kind++ {
			for _, n := range numbers {
				for _, e := range []pith.Entry{{Kind: kind, N: n}, {Kind: kind, Start: n, End: n, Lines: []roll.Line{{At: n}}, Tail: bad}, {Kind: kind, N: n, Cells: []api.Cell{{}}, Lasts: roll.Lasts{n}}, {Kind: kind, Write: bad[1]}} {
					pith.Do(s, e)
					pith.TakeEntry(pith.PutEntry(e))
				}
			}
		}
	}
	for kind := range 256 {
		for _, b := range [][]byte{nil, {0}, {9}, {8, 255, 255, 255, 255, 255, 255, 255, 255}, slices.Repeat([]byte{1}, 100)} {
			pith.TakeEntry(frame.Piece{Kind: byte(kind), Inside: b})
			pith.TakeState(frame.Piece{Kind: byte(kind), Inside: b})
		}
	}
}

// R1.
func TestP10_R1_IntHas64Bits(t *testing.T) {
	if strconv.IntSize != 64 {
		t.Errorf("an int has %d bits", strconv.IntSize)
	}
	does(t, "Born", some(), pith.Entry{Kind: pith.Born, N: 1<<32 + 6}, api.ErrRange, pith.State{})
}

// R3, R4: beside an error stands the zero value, and what was handed in is as it was. (R2: the tests of each kind have two errors at once.)
func TestP10_R3_BesideAnError(t *testing.T) {
	s := some()
	for _, e := range []pith.Entry{{}, {Kind: pith.Took, Write: write("3/9 put a 1")}, {Kind: pith.Grew, Start: 14, End: 15, Lines: lines(14, "1/6 put c 1")}, {Kind: pith.Leapt, N: 3}, {Kind: pith.Cut, N: 99}} {
		does(t, "an error", s, e, map[int]api.Errno{0: api.ErrForm, pith.Took: api.ErrGap, pith.Grew: api.ErrReach, pith.Leapt: api.ErrBelow, pith.Cut: api.ErrRange}[e.Kind], pith.State{})
		if !same(s, some()) {
			t.Fatal("the state has changed")
		}
	}
}

// R5: a list that is nil means the same as one that is empty.
func TestP10_R5_EmptyAndNil(t *testing.T) {
	empty := pith.State{Node: 1, Parent: 0, Room: 1, Reach: api.Reach{}, Stem: spine.Stem{Cells: []api.Cell{}, Lines: []roll.Line{}}, Tail: []api.Write{}, Queue: []api.Write{}}
	none := pith.State{Node: 1, Parent: 0, Room: 1}
	if !pith.Good(empty) || !pith.Good(none) || !samePiece(pith.PutState(empty), pith.PutState(none)) {
		t.Error("empty lists aren't as nil ones")
	}
	for _, e := range []pith.Entry{{Kind: pith.Grew, End: 1}, {Kind: pith.Grew, End: 1, Lines: []roll.Line{}, Cells: []api.Cell{}, Tail: []api.Write{}}} {
		for _, s := range []pith.State{empty, none} {
			does(t, "Grew", s, e, api.OK, with(none, func(s *pith.State) { s.Stem.End = 1 }))
		}
		if !samePiece(pith.PutEntry(e), pith.PutEntry(pith.Entry{Kind: pith.Grew, End: 1})) {
			t.Error("the piece of an entry with empty lists")
		}
	}
	root := api.Reach{""}
	if _, e := pith.New(0, -1, 1, root[:1:1]); e != api.OK {
		t.Errorf("New: %d", e)
	}
}

// wipe changes all that the lists of a state have, their spare room, too.
func wipe(s pith.State) {
	clear(s.Reach[:cap(s.Reach)])
	clear(s.Stem.Cells[:cap(s.Stem.Cells)])
	clear(s.Stem.Lines[:cap(s.Stem.Lines)])
	clear(s.Tail[:cap(s.Tail)])
	clear(s.Queue[:cap(s.Queue)])
}

// P17.4, and R6: what is handed in stays, and isn't kept; answers are new memory.
func TestP17_4_Memory(t *testing.T) {
	for _, e := range []pith.Entry{{Kind: pith.Born, N: 6}, {Kind: pith.Took, Write: write("3/7 put a 1")}, {Kind: pith.Grew, Start: 14, End: 16, Lines: lines(14, "3/4 put a 2", "3/5 put b 2"), Tail: writes("2/1 put a 1")}, {Kind: pith.Leapt, N: 20, Cells: cells("a", 5), Lasts: roll.Lasts{3: 5}, Tail: writes("2/1 put a 1")}, {Kind: pith.Moved, N: 2}, {Kind: pith.Cut, N: 12}, {Kind: pith.Cut, N: 10}} {
		s := some()
		s.Queue, s.Tail, s.Stem.Lines = slices.Grow(s.Queue, 9), slices.Grow(s.Tail, 9), slices.Grow(s.Stem.Lines, 9)
		spare := [][]api.Write{s.Queue[3:cap(s.Queue)], s.Tail[2:cap(s.Tail)]}
		own, _ := pith.TakeEntry(pith.PutEntry(e))
		x, errno := pith.Do(s, own)
		want, _ := pith.Do(s, own)
		if errno != api.OK || !same(s, some()) || !sameEntry(own, e) {
			t.Fatalf("%v: %d, or what was handed in has changed", e, errno)
		}
		for _, l := range spare {
			if slices.ContainsFunc(l, func(w api.Write) bool { return w != api.Write{} }) {
				t.Fatalf("%v: spare room has changed", e)
			}
		}
		wipe(s)
		clear(own.Lines)
		clear(own.Cells)
		clear(own.Tail)
		y, _ := pith.Do(some(), e)
		if !same(x, y) || !same(want, y) {
			t.Fatalf("%v: the answer has changed with what was handed in", e)
		}
		wipe(x)
		if !same(want, y) {
			t.Fatalf("%v: two answers share memory", e)
		}
	}
}

func TestP17_4_Pieces(t *testing.T) {
	for _, s := range states() {
		p, q := pith.PutState(s), pith.PutState(s)
		x, _ := pith.TakeState(p)
		was := slices.Clone(q.Inside)
		clear(p.Inside[:cap(p.Inside)])
		y, e := pith.TakeState(q)
		if !same(x, s) || e != api.OK || !same(y, s) || !slices.Equal(q.Inside, was) {
			t.Fatal("a state has changed with its piece, or a piece with it")
		}
		wipe(x)
		if y, _ := pith.TakeState(q); !same(y, s) {
			t.Fatal("two states share memory")
		}
	}
	for _, e := range entries() {
		p, q := pith.PutEntry(e), pith.PutEntry(e)
		x, _ := pith.TakeEntry(p)
		clear(p.Inside[:cap(p.Inside)])
		if y, _ := pith.TakeEntry(q); !sameEntry(x, e) || !sameEntry(y, e) {
			t.Fatal("an entry has changed with its piece")
		}
		clear(x.Tail)
		clear(x.Lines)
		clear(x.Cells)
		if y, _ := pith.TakeEntry(q); !sameEntry(y, e) {
			t.Fatal("two entries share memory")
		}
	}
	r := append(make(api.Reach, 0, 9), "a")
	s, _ := pith.New(1, 0, 8, r)
	r[0] = "z"
	if s.Reach[0] != "a" {
		t.Error("New keeps the reach")
	}
}

// R8: the same again.
func TestP10_R8_TheSameAgain(t *testing.T) {
	for range 3 {
		for _, e := range entries() {
			a, x := pith.Do(some(), e)
			pith.Do(rootState(), e)
			b, y := pith.Do(some(), e)
			if x != y || !same(a, b) {
				t.Errorf("%v: another answer", e)
			}
		}
	}
}

// What Own answers is the same one, and shares no memory with it.
func TestP17_4_Own(t *testing.T) {
	for _, want := range []func() pith.State{some, rootState, func() pith.State { return pith.State{} }} {
		s := want()
		x := pith.Own(s)
		wipe(s)
		y := pith.Own(x)
		wipe(y)
		if !same(x, want()) {
			t.Errorf("Own: %v, want %v", x, want())
		}
	}
}

// texts are those of a state.
func texts(s pith.State) []string {
	all := slices.Clone(s.Reach)
	for _, c := range s.Stem.Cells {
		all = append(all, c.Key, c.Value.Text)
	}
	for _, w := range slices.Concat(s.Tail, s.Queue) {
		all = append(all, w.Op.Key, w.Op.A.Text, w.Op.B.Text)
	}
	for _, x := range s.Stem.Lines {
		all = append(all, x.Write.Op.Key, x.Write.Op.A.Text)
	}
	return slices.DeleteFunc(all, func(x string) bool { return x == "" })
}

// P17.4: texts are new memory, too.
func TestP17_4_Texts(t *testing.T) {
	s := some()
	s.Stem.Cells = append(s.Stem.Cells, api.Cell{Key: strings.Clone("b.2"), Value: api.Value{Kind: api.Text, Text: strings.Clone("text")}})
	s.Stem.Lines[0].Write.Op = api.Op{Kind: api.Put, Key: strings.Clone("a.9"), A: api.Value{Kind: api.Text, Text: strings.Clone("line")}}
	x, _ := pith.Do(s, pith.Entry{Kind: pith.Born, N: 9})
	y, _ := pith.Do(s, pith.Entry{Kind: pith.Cut, N: 10})
	had := map[*byte]string{}
	for i, l := range [][]string{texts(s), texts(pith.Own(s)), texts(x), texts(y)} {
		for _, text := range l {
			at := unsafe.StringData(text)
			if _, has := had[at]; has && i > 0 {
				t.Fatalf("%q isn't new memory", text)
			}
			had[at] = text
		}
	}
}
