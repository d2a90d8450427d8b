package pith_test

import (
	"math/rand"
	"slices"
	"testing"

	"spinney/api"
	"spinney/pith"
	"spinney/roll"
	"spinney/spine"
	"spinney/stamp"
)

func TestP17_1_Example(t *testing.T) {
	s, e := pith.New(3, 1, 8, api.Reach{"a"})
	if e != api.OK {
		t.Fatalf("New: %d", e)
	}
	w := write("3/1 put a 1")
	took := with(s, func(s *pith.State) { s.Queue = []api.Write{w} })
	does(t, "Took", s, pith.Entry{Kind: pith.Took, Write: w}, api.OK, took)
	grew := with(s, func(s *pith.State) { s.Stem = spine.Stem{End: 1, Lines: []roll.Line{{Write: w}}} })
	does(t, "Grew", took, pith.Entry{Kind: pith.Grew, End: 1, Lines: []roll.Line{{Write: w}}}, api.OK, grew)
	does(t, "Took again", grew, pith.Entry{Kind: pith.Took, Write: w}, api.ErrTwice, pith.State{})
}

func TestP17_1_New(t *testing.T) {
	all := api.Reach{""}
	for _, c := range []struct {
		node, parent, room int
		r                  api.Reach
		want               api.Errno
	}{
		{0, -1, 40, all, api.OK}, {0, -1, 1, all, api.OK}, {0, -1, 400, all, api.OK}, {1, 0, 8, all, api.OK}, {11, 10, 8, nil, api.OK}, {10, 11, 8, api.Reach{"a", "b"}, api.OK}, {3, 0, 400, api.Reach{"a"}, api.OK},
		{0, 0, 40, all, api.ErrForm}, {0, 1, 40, all, api.ErrForm}, {0, -2, 40, all, api.ErrForm}, {0, -1, 40, nil, api.ErrForm}, {0, -1, 40, api.Reach{"a"}, api.ErrForm}, {1, -1, 8, all, api.ErrForm}, {1, 1, 8, all, api.ErrForm}, {1, 12, 8, all, api.ErrForm}, {12, 0, 8, all, api.ErrForm}, {-1, 0, 8, all, api.ErrForm}, {-1, -1, 8, all, api.ErrForm}, {least, 0, 8, all, api.ErrForm}, {greatest, 0, 8, all, api.ErrForm}, {1, greatest, 8, all, api.ErrForm}, {1, least, 8, all, api.ErrForm},
		{1, 0, 0, all, api.ErrForm}, {1, 0, 401, all, api.ErrForm}, {1, 0, -1, all, api.ErrForm}, {1, 0, 8, api.Reach{"b", "a"}, api.ErrForm}, {1, 0, 8, api.Reach{"", "a"}, api.ErrForm}, {1, 0, 8, api.Reach{"A"}, api.ErrForm}, {1, 0, 8, api.Reach{"a", "b", "c", "d", "e", "f", "g"}, api.ErrForm},
	} {
		s, e := pith.New(c.node, c.parent, c.room, c.r)
		want := pith.State{}
		if c.want == api.OK {
			want = pith.State{Node: c.node, Parent: c.parent, Room: c.room, Reach: c.r}
		}
		if e != c.want || !same(s, want) || pith.Good(s) != (e == api.OK) {
			t.Errorf("New(%d, %d, %d, %q): %v, %d, want %d", c.node, c.parent, c.room, c.r, s, e, c.want)
		}
	}
}

// Each word of 'It is good'.
func TestP17_1_Good(t *testing.T) {
	for _, c := range []struct {
		name   string
		change func(s *pith.State)
		good   bool
	}{
		{"as it is", func(s *pith.State) {}, true},
		{"life 0", func(s *pith.State) { s.Life = 0 }, true}, {"the last life", func(s *pith.State) { s.Life = 1 << 30 }, true}, {"no life", func(s *pith.State) { s.Life = -1 }, false}, {"a life too many", func(s *pith.State) { s.Life = 1<<30 + 1 }, false},
		{"another node", func(s *pith.State) { s.Node = 11 }, true}, {"its own parent", func(s *pith.State) { s.Parent = 3 }, false}, {"the root as parent", func(s *pith.State) { s.Parent = 0 }, true}, {"no parent", func(s *pith.State) { s.Parent = -1 }, false}, {"a parent too many", func(s *pith.State) { s.Parent = 12 }, false}, {"no node", func(s *pith.State) { s.Node = -1 }, false}, {"a node too many", func(s *pith.State) { s.Node = 12 }, false},
		{"a room just enough", func(s *pith.State) { s.Room = 3 }, true}, {"a room too small", func(s *pith.State) { s.Room = 2 }, false}, {"the greatest room", func(s *pith.State) { s.Room = 400 }, true}, {"a room too great", func(s *pith.State) { s.Room = 401 }, false}, {"no room", func(s *pith.State) { s.Room, s.Queue = 0, nil }, false},
		{"a reach that isn't good", func(s *pith.State) { s.Reach = api.Reach{"b", "a"} }, false}, {"a cell outside", func(s *pith.State) { s.Reach = api.Reach{"a", "b.2", "b.x"} }, false},
		{"a base above the end", func(s *pith.State) { s.Stem.Base = 15 }, false}, {"a line outside", func(s *pith.State) { s.Stem.Lines = lines(14, "1/5 put a 1") }, false}, {"lasts of the root", func(s *pith.State) { s.Stem.Lasts[0] = 1 }, false}, {"cells that aren't good", func(s *pith.State) { s.Stem.Cells = cells("a", 1, "a", 2) }, false}, {"a line of a key outside", func(s *pith.State) { s.Stem.Lines = lines(10, "1/5 put c 1") }, false},
		{"no tail", func(s *pith.State) { s.Tail = nil }, true}, {"a tail of 440", func(s *pith.State) { s.Tail = many(440) }, true}, {"an id twice in the tail", func(s *pith.State) { s.Tail = writes("1/6 put a 1", "1/6 put a 1") }, false}, {"a tail that isn't steady", func(s *pith.State) { s.Tail = writes("1/9 put a 1", "1/6 put a 1") }, true}, {"a tail outside", func(s *pith.State) { s.Tail = writes("1/6 put c 1") }, false}, {"a tail that isn't good", func(s *pith.State) { s.Tail[0].Id.Seq = 41 }, false}, {"a tail of what is known", func(s *pith.State) { s.Tail = writes("1/5 add a 3") }, true},
		{"no queue", func(s *pith.State) { s.Queue = nil }, true}, {"a queue outside", func(s *pith.State) { s.Queue = writes("3/4 put c 1") }, false}, {"a queue that isn't tight", func(s *pith.State) { s.Queue = writes("3/4 put a 1", "3/6 put a 1") }, false}, {"an old one in the queue", func(s *pith.State) { s.Queue = writes("3/3 put b 1") }, false}, {"an old one beside the cells", func(s *pith.State) { s.Queue = writes("1/4 put b 1") }, false}, {"a gap ahead of the queue", func(s *pith.State) { s.Queue = writes("3/9 put b 1") }, true}, {"a queue that isn't good", func(s *pith.State) { s.Queue = writes("3/4 put a 1"); s.Queue[0].Op.Kind = 0 }, false},
		{"the root with a parent", func(s *pith.State) { *s = rootState(); s.Parent = 1 }, false}, {"the root with a tail", func(s *pith.State) { *s = rootState(); s.Tail = writes("5/1 put a 1") }, false}, {"the root with a queue", func(s *pith.State) { *s = rootState(); s.Queue = writes("5/1 put a 1") }, false}, {"the root", func(s *pith.State) { *s = rootState() }, true}, {"the root for some keys", func(s *pith.State) { *s = rootState(); s.Reach = api.Reach{"a", "z"} }, false}, {"another one with no parent", func(s *pith.State) { *s = rootState(); s.Node = 1 }, false}, {"another one for all keys", func(s *pith.State) { *s = rootState(); s.Node, s.Parent = 1, 0 }, true},
	} {
		s := some()
		c.change(&s)
		if pith.Good(s) != c.good {
			t.Errorf("%s: %v", c.name, !c.good)
		}
		if x, e := pith.TakeState(pith.PutState(s)); c.good && (e != api.OK || !same(x, s)) || !c.good && (e != api.ErrForm || !same(x, pith.State{})) {
			t.Errorf("%s: TakeState: %v, %d", c.name, x, e)
		}
	}
}

func TestP17_1_Born(t *testing.T) {
	for _, s := range []pith.State{some(), rootState(), with(some(), func(s *pith.State) { s.Life = 0 }), with(some(), func(s *pith.State) { s.Life = 1<<30 - 1 }), with(some(), func(s *pith.State) { s.Life = 1 << 30 })} {
		for _, n := range []int{s.Life + 1, s.Life, s.Life - 1, 0, -1, least, 1 << 30, 1<<30 + 1, greatest, s.Life + 100} {
			want := api.OK
			if n <= s.Life || n > 1<<30 {
				want = api.ErrRange
			}
			does(t, "Born", s, pith.Entry{Kind: pith.Born, N: n}, want, with(s, func(s *pith.State) { s.Life = n }))
		}
	}
}

func TestP17_1_Took(t *testing.T) {
	full := with(some(), func(s *pith.State) { s.Room = 3 })
	bad := write("3/7 put a 1")
	bad.Op.A = api.Value{}
	for _, c := range []struct {
		name string
		s    pith.State
		w    api.Write
		want api.Errno
	}{
		{"the next one", some(), write("3/7 put a 1"), api.OK}, {"another device's", some(), write("1/6 put a 1"), api.OK}, {"a new device's", some(), write("11/1 put a 1"), api.OK},
		{"no write", some(), api.Write{}, api.ErrForm}, {"one that isn't good", some(), bad, api.ErrForm}, {"a key outside", some(), write("3/7 put c 1"), api.ErrReach}, {"old in the queue", some(), write("3/6 put a 1"), api.ErrTwice}, {"old in the lines", some(), write("1/5 put a 1"), api.ErrTwice}, {"old beside the cells", some(), write("1/1 put a 1"), api.ErrTwice}, {"a gap", some(), write("3/8 put a 1"), api.ErrGap}, {"a gap of another one", some(), write("11/2 put a 1"), api.ErrGap}, {"a gap outside", some(), write("3/8 put c 1"), api.ErrReach},
		{"full", full, write("3/7 put a 1"), api.ErrFull}, {"full, and old", full, write("3/6 put a 1"), api.ErrTwice}, {"full, and a gap", full, write("3/8 put a 1"), api.ErrGap},
	} {
		does(t, c.name, c.s, pith.Entry{Kind: pith.Took, Write: c.w}, c.want, with(c.s, func(s *pith.State) { s.Queue = append(s.Queue, c.w) }))
	}
}

// Rooms of 1 and of 400.
func TestP17_1_TookUpToTheRoom(t *testing.T) {
	for _, room := range []int{1, 400} {
		s, _ := pith.New(3, 1, room, api.Reach{"a"})
		all := many(401)
		for i := range room {
			want := with(s, func(s *pith.State) { s.Queue = all[:i+1] })
			does(t, "Took", s, pith.Entry{Kind: pith.Took, Write: all[i]}, api.OK, want)
			s = want
		}
		does(t, "Took of a full one", s, pith.Entry{Kind: pith.Took, Write: all[room]}, api.ErrFull, pith.State{})
	}
}

func TestP17_1_TookOfTheRoot(t *testing.T) {
	late := with(rootState(), func(s *pith.State) { s.Stem.End = 4095 })
	full := with(rootState(), func(s *pith.State) { s.Stem.End = 4096 })
	for _, c := range []struct {
		name string
		s    pith.State
		w    api.Write
		want api.Errno
	}{
		{"the next one", rootState(), write("1/3 put q 1"), api.OK}, {"a new device's", rootState(), write("2/1 put q 1"), api.OK}, {"the last one", late, write("2/1 put q 1"), api.OK},
		{"no write", rootState(), api.Write{}, api.ErrForm}, {"old", rootState(), write("1/1 put q 1"), api.ErrTwice}, {"old in the lines", rootState(), write("4/1 put q 1"), api.ErrTwice}, {"a gap", rootState(), write("4/3 put q 1"), api.ErrGap},
		{"full", full, write("2/1 put q 1"), api.ErrFull}, {"full, and old", full, write("4/1 put q 1"), api.ErrTwice}, {"full, and a gap", full, write("4/3 put q 1"), api.ErrGap}, {"full, and no write", full, api.Write{}, api.ErrForm},
	} {
		does(t, c.name, c.s, pith.Entry{Kind: pith.Took, Write: c.w}, c.want, with(c.s, func(s *pith.State) {
			s.Stem.Lines = append(slices.Clone(s.Stem.Lines), roll.Line{At: s.Stem.End, Write: c.w})
			s.Stem.End++
		}))
	}
}

func TestP17_1_Grew(t *testing.T) {
	s := some()
	mine := lines(14, "3/4 put a 2", "3/5 put b 2", "", "3/6 del a")
	for _, c := range []struct {
		name  string
		e     pith.Entry
		want  api.Errno
		queue []api.Write
		lines []roll.Line // that are added
		end   int
	}{
		{"nothing", pith.Entry{}, api.OK, s.Queue, nil, 14},
		{"the queue settles wholly", pith.Entry{Start: 14, End: 18, Lines: mine}, api.OK, nil, mine, 18},
		{"in part", pith.Entry{Start: 14, End: 16, Lines: mine[:2]}, api.OK, s.Queue[2:], mine[:2], 16},
		{"not at all", pith.Entry{Start: 14, End: 15, Lines: lines(14, "1/6 put a 9"), Tail: s.Tail}, api.OK, s.Queue, lines(14, "1/6 put a 9"), 15},
		{"with a tail of 440", pith.Entry{Start: 12, End: 14, Tail: many(440)}, api.OK, s.Queue, nil, 14},
		{"of what is known", pith.Entry{Start: 10, End: 13, Lines: lines(10, "9/9 put a 1"), Tail: writes("2/1 put a 1")}, api.OK, s.Queue, nil, 14},
		{"a tail that isn't good", pith.Entry{Start: 14, End: 14, Tail: []api.Write{{}}}, api.ErrForm, nil, nil, 0},
		{"a tail of 513", pith.Entry{Start: 14, End: 14, Tail: slices.Repeat(many(1), 513)}, api.ErrForm, nil, nil, 0},
		{"an id twice in the tail", pith.Entry{Start: 14, End: 14, Tail: writes("2/1 put a 1", "2/1 put b 1")}, api.ErrForm, nil, nil, 0},
		{"a tail outside", pith.Entry{Start: 14, End: 14, Tail: writes("2/1 put c 1")}, api.ErrReach, nil, nil, 0},
		{"a tail outside, and a start above the end", pith.Entry{Start: 15, End: 14, Tail: writes("2/1 put c 1")}, api.ErrReach, nil, nil, 0},
		{"a tail outside, and not single", pith.Entry{Start: 14, End: 14, Tail: writes("2/1 put c 1", "2/1 put b 1")}, api.ErrForm, nil, nil, 0},
		{"a start above the end", pith.Entry{Start: 15, End: 14}, api.ErrForm, nil, nil, 0},
		{"a line outside the places", pith.Entry{Start: 14, End: 15, Lines: lines(15, "1/6 put a 9")}, api.ErrForm, nil, nil, 0},
		{"an end above 4096", pith.Entry{Start: 14, End: 4097}, api.ErrForm, nil, nil, 0},
		{"a line of a key outside", pith.Entry{Start: 14, End: 15, Lines: lines(14, "1/6 put c 9")}, api.ErrReach, nil, nil, 0},
		{"a gap", pith.Entry{Start: 15, End: 16}, api.ErrGap, nil, nil, 0},
	} {
		c.e.Kind = pith.Grew
		does(t, c.name, s, c.e, c.want, with(s, func(s *pith.State) {
			s.Stem.Lines = slices.Concat(s.Stem.Lines, c.lines)
			s.Stem.End, s.Queue, s.Tail = c.end, c.queue, c.e.Tail
		}))
		does(t, c.name+", at the root", rootState(), c.e, api.ErrTree, pith.State{})
	}
}

// A tail of 512 different ids there can't be, as there are but 440: of those that are single each is at most 512.
func TestP17_1_TheGreatestTail(t *testing.T) {
	does(t, "a tail of 440", some(), pith.Entry{Kind: pith.Grew, Start: 14, End: 14, Tail: many(440)}, api.OK, with(some(), func(s *pith.State) { s.Tail = many(440) }))
	does(t, "a tail of 512", some(), pith.Entry{Kind: pith.Grew, Start: 14, End: 14, Tail: append(many(440), many(72)...)}, api.ErrForm, pith.State{})
}

func TestP17_1_Leapt(t *testing.T) {
	s := some()
	for _, c := range []struct {
		name  string
		e     pith.Entry
		want  api.Errno
		queue []api.Write
	}{
		{"just above the end", pith.Entry{N: 15, Cells: cells("a", 1), Lasts: roll.Lasts{1: 9, 3: 3}, Tail: writes("2/1 put a 1")}, api.OK, s.Queue},
		{"to 4096", pith.Entry{N: 4096, Lasts: roll.Lasts{3: 6}}, api.OK, nil},
		{"the queue settles in part", pith.Entry{N: 20, Lasts: roll.Lasts{3: 5}}, api.OK, s.Queue[2:]},
		{"to lasts below", pith.Entry{N: 20, Lasts: roll.Lasts{3: 1}}, api.OK, s.Queue},
		{"to no lasts", pith.Entry{N: 20}, api.OK, s.Queue},
		{"a tail that isn't good", pith.Entry{N: 20, Tail: []api.Write{{}}}, api.ErrForm, nil}, {"an id twice in the tail", pith.Entry{N: 20, Tail: writes("2/1 put a 1", "2/1 put b 1")}, api.ErrForm, nil}, {"a tail of 513", pith.Entry{N: 20, Tail: slices.Repeat(many(1), 513)}, api.ErrForm, nil}, {"a tail outside", pith.Entry{N: 20, Tail: writes("2/1 put c 1")}, api.ErrReach, nil}, {"a tail outside, and cells that aren't good", pith.Entry{N: 20, Cells: cells("b", 1, "a", 1), Tail: writes("2/1 put c 1")}, api.ErrReach, nil},
		{"cells that aren't good", pith.Entry{N: 20, Cells: cells("b", 1, "a", 1)}, api.ErrForm, nil}, {"lasts that aren't good", pith.Entry{N: 20, Lasts: roll.Lasts{1: 41}}, api.ErrForm, nil}, {"above 4096", pith.Entry{N: 4097}, api.ErrForm, nil}, {"below 0", pith.Entry{N: -1}, api.ErrForm, nil}, {"a key outside", pith.Entry{N: 20, Cells: cells("c", 1)}, api.ErrReach, nil}, {"to the end", pith.Entry{N: 14}, api.ErrBelow, nil}, {"to 0", pith.Entry{}, api.ErrBelow, nil}, {"to the end, a key outside", pith.Entry{N: 14, Cells: cells("c", 1)}, api.ErrReach, nil},
	} {
		c.e.Kind = pith.Leapt
		does(t, c.name, s, c.e, c.want, with(s, func(s *pith.State) {
			s.Stem = spine.Stem{Base: c.e.N, End: c.e.N, Cells: c.e.Cells, Lasts: c.e.Lasts}
			s.Queue, s.Tail = c.queue, c.e.Tail
		}))
		does(t, c.name+", at the root", rootState(), c.e, api.ErrTree, pith.State{})
	}
}

func TestP17_1_MovedAndCut(t *testing.T) {
	s := some()
	for n, want := range map[int]api.Errno{0: api.OK, 1: api.OK, 2: api.OK, 3: api.ErrRange, 11: api.OK, 12: api.ErrRange, -1: api.ErrRange, least: api.ErrRange, greatest: api.ErrRange} {
		does(t, "Moved", s, pith.Entry{Kind: pith.Moved, N: n}, want, with(s, func(s *pith.State) { s.Parent = n }))
		does(t, "Moved of the root", rootState(), pith.Entry{Kind: pith.Moved, N: n}, api.ErrTree, pith.State{})
	}
	for n, want := range map[int]api.Errno{10: api.OK, 11: api.OK, 12: api.OK, 13: api.OK, 14: api.OK, 15: api.ErrRange, greatest: api.ErrRange, 9: api.ErrBelow, 0: api.ErrBelow, -1: api.ErrBelow, least: api.ErrBelow} {
		does(t, "Cut", s, pith.Entry{Kind: pith.Cut, N: n}, want, with(s, func(s *pith.State) {
			s.Stem.Base = n
			if n > 10 {
				s.Stem.Cells, s.Stem.Lasts[1], s.Stem.Lines = cells("a", 10, "b.1", 5), 5, s.Stem.Lines[1:]
			}
			if n > 12 {
				s.Stem.Cells, s.Stem.Lasts[3], s.Stem.Lines = cells("a", 10, "b", 1, "b.1", 5), 3, nil
			}
		}))
	}
	does(t, "Cut of the root", rootState(), pith.Entry{Kind: pith.Cut, N: 3}, api.OK, with(rootState(), func(s *pith.State) {
		s.Stem = spine.Stem{Base: 3, End: 3, Cells: cells("a", 2, "z", 1), Lasts: roll.Lasts{1: 2, 4: 1}}
	}))
}

// Of another kind, or with what its kind doesn't use, each field by itself: ahead of all errors of the table.
func TestP17_1_WhatIsNoEntry(t *testing.T) {
	good := map[int]pith.Entry{pith.Born: {N: 6}, pith.Took: {Write: write("3/7 put a 1")}, pith.Grew: {Start: 14, End: 15}, pith.Leapt: {N: 20}, pith.Moved: {N: 2}, pith.Cut: {N: 12}}
	more := append(fields(), field{"End", func(e *pith.Entry) { e.End = -1 }}, field{"Write", func(e *pith.Entry) { e.Write.Id.Seq = 1 }})
	for kind := range good {
		for _, f := range more {
			if uses(kind, f.name) {
				continue
			}
			e := good[kind]
			e.Kind = kind
			if _, errno := pith.Do(some(), e); errno != api.OK {
				t.Errorf("kind %d: %d", kind, errno)
			}
			f.set(&e)
			does(t, f.name, some(), e, api.ErrForm, pith.State{})
			bad := pith.Entry{Kind: kind}
			f.set(&bad)
			does(t, f.name+" alone", some(), bad, api.ErrForm, pith.State{})
			does(t, f.name+" at the root", rootState(), bad, api.ErrForm, pith.State{})
		}
	}
	for _, kind := range []int{0, 7, 8, 9, -1, 256 + 1, least, greatest} {
		for _, s := range []pith.State{some(), rootState()} {
			does(t, "of no kind", s, pith.Entry{Kind: kind}, api.ErrForm, pith.State{})
			does(t, "of no kind", s, pith.Entry{Kind: kind, N: 6}, api.ErrForm, pith.State{})
		}
	}
}

func TestP17_1_LastsAndNext(t *testing.T) {
	if l := pith.Lasts(some()); l != (roll.Lasts{1: 5, 3: 6}) {
		t.Errorf("Lasts: %v", l)
	}
	if l := pith.Lasts(rootState()); l != (roll.Lasts{1: 2, 4: 1}) {
		t.Errorf("Lasts of the root: %v", l)
	}
	none, _ := pith.New(5, 1, 8, nil)
	for _, c := range []struct {
		s    pith.State
		want int
	}{{some(), 7}, {none, 1}, {with(some(), func(s *pith.State) { s.Queue = nil }), 4}, {with(some(), func(s *pith.State) { s.Queue, s.Stem.Lines = nil, nil }), 3}, {with(some(), func(s *pith.State) { s.Node = 1 }), 6}, {with(some(), func(s *pith.State) { s.Node = 2 }), 1}, {with(some(), func(s *pith.State) { s.Stem.Lasts[3], s.Queue = 40, nil }), 41}} {
		if n := pith.Next(c.s); n != c.want {
			t.Errorf("Next: %d, want %d", n, c.want)
		}
	}
}

// P17.2: entries by chance, one after the other.
func TestP17_2_GoodStaysGood(t *testing.T) {
	r := rand.New(rand.NewSource(172))
	done := map[int]int{}
	for i := range 200 {
		s, _ := pith.New(1+i%11, 0, 1+r.Intn(9), api.Reach{"a", "b"})
		if i%3 == 0 {
			s, _ = pith.New(0, -1, 40, api.Reach{""})
		}
		for range 60 {
			e := entry(r, s)
			was := tidy(s)
			x, errno := pith.Do(s, e)
			if !same(s, was) {
				t.Fatalf("%v: what was handed in has changed", e)
			}
			if errno != api.OK {
				if !same(x, pith.State{}) {
					t.Fatalf("%v: %v beside %d", e, x, errno)
				}
				continue
			}
			done[e.Kind]++
			keeps(t, s, e, x)
			if y, err := pith.TakeState(pith.PutState(x)); err != api.OK || !same(x, y) {
				t.Fatalf("%v: taken as %v, %d", x, y, err)
			}
			if y, err := pith.TakeEntry(pith.PutEntry(e)); err != api.OK || !sameEntry(e, y) {
				t.Fatalf("%v: taken as %v, %d", e, y, err)
			}
			s = x
		}
	}
	for kind := 1; kind <= 6; kind++ {
		if done[kind] < 100 {
			t.Errorf("kind %d was done %d times", kind, done[kind])
		}
	}
}

// keeps looks at what P17.2 says of a state, an entry, and what that left.
func keeps(t *testing.T, s pith.State, e pith.Entry, x pith.State) {
	t.Helper()
	if !pith.Good(x) || x.Stem.End < s.Stem.End || x.Life < s.Life || x.Node != s.Node || x.Room != s.Room {
		t.Fatalf("%v leaves of %v %v", e, s, x)
	}
	had, has := pith.Lasts(s), pith.Lasts(x)
	for dev := range had {
		if e.Kind != pith.Leapt && has[dev] < had[dev] {
			t.Fatalf("%v: lasts of %v are %v", e, had, has)
		}
	}
	there := slices.Concat(roll.Writes(x.Stem.Lines), x.Queue)
	for _, w := range slices.Concat(roll.Writes(s.Stem.Lines), s.Queue) {
		if stamp.Find(there, w.Id) < 0 && w.Id.Seq > x.Stem.Lasts[w.Id.Dev] && e.Kind != pith.Leapt {
			t.Fatalf("%v: %v is gone", e, w.Id)
		}
	}
}
