package spine_test

import (
	"slices"
	"strconv"
	"strings"
	"testing"

	"spinney/api"
	"spinney/roll"
	"spinney/spine"
)

// All calls end, and none panics.
func TestP9_AnyArguments(t *testing.T) {
	numbers := []int{least, -1, 0, 1, 10, 16, 4095, 4096, 4097, 1 << 32, greatest}
	bad := [][]roll.Line{nil, {}, {{}}, {{At: least}}, {{At: greatest, Write: write("1/1 put a 1")}}, lines(10, "1/1 put a 1"), {{At: 10, Write: api.Write{Id: api.Id{Dev: -1, Seq: greatest}, Op: api.Op{Kind: least, Key: "\xff"}}}}}
	for _, r := range append(reaches, api.Reach{"b", "a", ""}, api.Reach{strings.Repeat("k", 5000)}) {
		for _, n := range numbers {
			for _, m := range numbers {
				for _, l := range bad {
					spine.Of(r, spine.Stem{Base: n, End: m, Lines: l})
					s := spine.New(r)
					s.Grow(n, m, l)
					s.Leap(n, []api.Cell{{Key: "a", Value: api.Value{Kind: api.Kind(m), Num: m}}}, roll.Lasts{1: n})
					s.Cut(m)
					s.From(n, r)
					s.From(m, api.Reach{"a"})
					s.State()
				}
			}
		}
	}
}

// Many lines end soon, too.
func TestP9_ManyLines(t *testing.T) {
	s := spine.New(api.Reach{"a"})
	var l []roll.Line
	for at := range 4096 {
		l = append(l, roll.Line{At: at, Write: write("1/" + strconv.Itoa(1+at%40) + " add a 1")})
	}
	l[0].Write = write("1/1 put a 1")
	for at := 0; at < 4096; at += 16 {
		if e := s.Grow(at, at+16, l[at:at+16]); e != api.OK {
			t.Fatalf("Grow(%d): %d", at, e)
		}
	}
	if got := s.State(); !slices.Equal(got, cells("a", 4096)) {
		t.Errorf("State: %v", got)
	}
	if e := s.Grow(0, 4097, nil); e != api.ErrForm {
		t.Errorf("Grow beyond 4096: %d", e)
	}
	if s.Cut(4096) != api.OK || len(s.Writes()) != 0 || !slices.Equal(s.Stem().Cells, cells("a", 4096)) {
		t.Error("Cut at 4096")
	}
	if e := s.Leap(4096, nil, roll.Lasts{}); e != api.ErrBelow {
		t.Errorf("Leap to 4096: %d", e)
	}
}

// R1.
func TestP10_R1_IntHas64Bits(t *testing.T) {
	if strconv.IntSize != 64 {
		t.Errorf("an int has %d bits", strconv.IntSize)
	}
	s := of(t, abn, some())
	for _, n := range []int{1<<32 + 12, 1<<63 - 1} {
		if s.Cut(n) != api.ErrRange || s.Grow(12, n, nil) != api.ErrForm || s.Leap(n, nil, roll.Lasts{}) != api.ErrForm {
			t.Errorf("%d", n)
		}
	}
}

// R3, R4: beside an error stands nothing, and nothing has changed. (R2: the tests of each call have two errors at once.)
func TestP10_R4_NothingHasChanged(t *testing.T) {
	s := of(t, abn, some())
	for range 2 {
		for _, e := range []api.Errno{s.Grow(17, 18, nil), s.Grow(16, 18, lines(16, "1/7 put a 1", "1/8 put m 1")), s.Grow(16, 4097, lines(16, "1/7 put a 1")), s.Leap(16, nil, roll.Lasts{}), s.Leap(20, cells("m", 1), roll.Lasts{}), s.Leap(20, nil, roll.Lasts{1}), s.Cut(17), s.Cut(9)} {
			if e == api.OK {
				t.Error("what can't be")
			}
			is(t, s, abn, some())
		}
		if l, e := s.From(17, abn); l != nil || e == api.OK {
			t.Errorf("From: %v, %d", l, e)
		}
	}
}

// R5: a list that is nil means the same as one that is empty.
func TestP10_R5_EmptyAndNil(t *testing.T) {
	for _, r := range []api.Reach{nil, {}} {
		for _, c := range [][]api.Cell{nil, {}} {
			for _, l := range [][]roll.Line{nil, {}} {
				s := of(t, r, spine.Stem{Base: 2, End: 5, Cells: c, Lines: l})
				is(t, s, nil, spine.Stem{Base: 2, End: 5})
				if s.Grow(5, 7, l) != api.OK || s.Leap(9, c, roll.Lasts{}) != api.OK {
					t.Error("Grow, Leap of none")
				}
				is(t, s, nil, spine.Stem{Base: 9, End: 9})
			}
		}
	}
}

// roomy is some stem in memory of its own, with others in the spare room of its lists.
func roomy() spine.Stem {
	x := some()
	x.Cells = append(x.Cells, cells("c", 9, "d", 9)...)[:2]
	x.Lines = append(x.Lines, lines(20, "9/9 put c 9", "9/9 put d 9")...)[:4]
	return x
}

// P15.4, and R6: what is handed in stays, with its spare room, and isn't kept.
func TestP15_4_WhatIsHandedIn(t *testing.T) {
	x, r := roomy(), append(make(api.Reach, 0, 9), "a", "b", "n")
	c, l := slices.Clone(x.Cells[:cap(x.Cells)]), slices.Clone(x.Lines[:cap(x.Lines)])
	s, whole := of(t, r, x), of(t, r, x)
	more, leap := append(lines(16, "1/7 put a 1", "2/8 put n 5"), lines(30, "9/9 put a 1")...)[:2], append(cells("a", 1), cells("x", 1)...)[:1]
	s.Grow(16, 18, more)
	s.Cut(17)
	s.Grow(18, 20, nil)
	s.From(17, r)
	if !slices.Equal(x.Cells[:cap(x.Cells)], c) || !slices.Equal(x.Lines[:cap(x.Lines)], l) || !slices.Equal(r[:9], append(slices.Clone(abn), make(api.Reach, 6)...)) {
		t.Fatal("what was handed in has changed")
	}
	if more[:3][2].At != 30 || more[0] != lines(16, "1/7 put a 1")[0] {
		t.Fatal("lines that were handed in have changed")
	}
	was := s.Stem()
	clear(more)
	clear(x.Cells[:cap(x.Cells)])
	clear(x.Lines[:cap(x.Lines)])
	r[0] = "z"
	is(t, s, abn, was)
	is(t, whole, abn, some())
	s.Leap(30, leap, roll.Lasts{})
	clear(leap)
	is(t, s, abn, spine.Stem{Base: 30, End: 30, Cells: cells("a", 1)})
	other := append(make(api.Reach, 0, 3), "a")
	n := spine.New(other)
	other[0] = "b"
	is(t, n, api.Reach{"a"}, spine.Stem{})
}

// P15.4, and R6: what was told may be changed behind the call, its spare room, too.
func TestP15_4_AnswersAreNewMemory(t *testing.T) {
	s := of(t, abn, some())
	for range 2 {
		x, again := s.Stem(), s.Stem()
		r, w, c := s.Reach(), s.Writes(), s.State()
		l, _ := s.From(10, abn)
		l2, _ := s.From(10, abn)
		clear(x.Cells[:cap(x.Cells)])
		clear(x.Lines[:cap(x.Lines)])
		clear(r[:cap(r)])
		clear(w[:cap(w)])
		clear(c[:cap(c)])
		clear(l[:cap(l)])
		if !same(again, some()) || !slices.Equal(l2, some().Lines) {
			t.Error("two answers share memory")
		}
		is(t, s, abn, some())
	}
	x := s.Stem()
	s.Cut(14)
	s.Grow(16, 17, lines(16, "1/7 put a 1"))
	if !same(x, some()) {
		t.Error("an answer has changed with the spine")
	}
}

// R8: the same calls answer the same, whatever was asked between.
func TestP10_R8_TheSameAgain(t *testing.T) {
	var first spine.Stem
	for i := range 5 {
		s := of(t, abn, some())
		other := spine.New(abn)
		other.Grow(0, 5, nil)
		s.Grow(12, 18, lines(17, "1/7 put a 1"))
		s.Cut(13)
		if i == 0 {
			first = s.Stem()
		}
		is(t, s, abn, first)
		is(t, other, abn, spine.Stem{End: 5})
	}
}
