package spine_test

import (
	"math/rand"
	"slices"
	"testing"

	"spinney/api"
	"spinney/roll"
	"spinney/spine"
)

func TestP15_1_Example(t *testing.T) {
	all := api.Reach{""}
	s := spine.New(all)
	if e := s.Grow(0, 2, lines(0, "1/1 put a 1", "2/1 put b 2")); e != api.OK {
		t.Fatalf("Grow: %d", e)
	}
	if e := s.Cut(1); e != api.OK {
		t.Fatalf("Cut: %d", e)
	}
	is(t, s, all, spine.Stem{Base: 1, End: 2, Cells: cells("a", 1), Lasts: roll.Lasts{1: 1}, Lines: lines(1, "2/1 put b 2")})
	if l, e := s.From(0, all); e != api.ErrBelow || len(l) != 0 {
		t.Errorf("From(0): %d", e)
	}
	if got := s.State(); !slices.Equal(got, cells("a", 1, "b", 2)) {
		t.Errorf("State: %v", got)
	}
}

// New of any reach, good or not.
func TestP15_1_New(t *testing.T) {
	for _, r := range append(reaches, api.Reach{"b", "a"}, api.Reach{"A", "\xff"}, api.Reach{"a", "a.1"}, api.Reach{"a", "b", "c", "d", "e", "f", "g", "h"}) {
		is(t, spine.New(r), r, spine.Stem{})
	}
}

func TestP15_1_Of(t *testing.T) {
	is(t, of(t, abn, some()), abn, some())
	is(t, of(t, abn, of(t, abn, some()).Stem()), abn, some())
	for _, x := range []spine.Stem{{}, {Base: 4096, End: 4096}, {End: 4096}, {Base: 4095, End: 4096, Lines: lines(4095, "1/1 put a 1")}, {Base: 5, End: 5, Cells: cells("a", 1), Lasts: roll.Lasts{11: 40}}, {Base: 0, End: 1, Lines: lines(0, "1/1 put a 1")}} {
		is(t, of(t, abn, x), abn, x)
	}
}

func TestP15_1_OfWhatCanNotBe(t *testing.T) {
	for _, c := range []struct {
		name   string
		change func(x *spine.Stem)
		want   api.Errno
	}{
		{"cells that don't rise", func(x *spine.Stem) { x.Cells = cells("b", 1, "a", 2) }, api.ErrForm},
		{"a key twice", func(x *spine.Stem) { x.Cells = cells("a", 1, "a", 2) }, api.ErrForm},
		{"nothing at a key", func(x *spine.Stem) { x.Cells = []api.Cell{{Key: "a"}} }, api.ErrForm},
		{"no key", func(x *spine.Stem) { x.Cells = cells("A", 1) }, api.ErrForm},
		{"a root's last", func(x *spine.Stem) { x.Lasts[0] = 1 }, api.ErrForm},
		{"a last above 40", func(x *spine.Stem) { x.Lasts[3] = 41 }, api.ErrForm},
		{"a last below 0", func(x *spine.Stem) { x.Lasts[11] = -1 }, api.ErrForm},
		{"lines that don't rise", func(x *spine.Stem) { x.Lines[1].At = 10 }, api.ErrForm},
		{"a line that isn't good", func(x *spine.Stem) { x.Lines[1].Write.Id.Seq = 0 }, api.ErrForm},
		{"a line below the base", func(x *spine.Stem) { x.Lines[0].At = 9 }, api.ErrForm},
		{"a line at the end", func(x *spine.Stem) { x.Lines[3].At = 16 }, api.ErrForm},
		{"a base below 0", func(x *spine.Stem) { x.Base = -1 }, api.ErrForm},
		{"a base above the end", func(x *spine.Stem) { x.Base, x.End, x.Lines = 17, 16, nil }, api.ErrForm},
		{"an end above 4096", func(x *spine.Stem) { x.End = 4097 }, api.ErrForm},
		{"the greatest end", func(x *spine.Stem) { x.End = greatest }, api.ErrForm},
		{"the least base", func(x *spine.Stem) { x.Base = least }, api.ErrForm},
		{"a cell's key outside", func(x *spine.Stem) { x.Cells = cells("a", 7, "c", 5) }, api.ErrReach},
		{"a line's key outside", func(x *spine.Stem) { x.Lines[3].Write.Op.Key = "m" }, api.ErrReach},
		{"both, and a base above the end", func(x *spine.Stem) { x.Cells, x.Base = cells("c", 5), 17 }, api.ErrForm},
		{"a cell's key outside, and a line that isn't good", func(x *spine.Stem) { x.Cells, x.Lines[3].Write.Id.Dev = cells("c", 5), 0 }, api.ErrForm},
		{"a line's key outside, and lasts that aren't good", func(x *spine.Stem) { x.Lasts[0], x.Lines[3].Write.Op.Key = 1, "m" }, api.ErrForm},
	} {
		x := some()
		c.change(&x)
		if s, e := spine.Of(abn, x); e != c.want || s != nil {
			t.Errorf("%s: %d, want %d", c.name, e, c.want)
		}
	}
}

// What Grow makes of the stem some, or answers.
func TestP15_1_Grow(t *testing.T) {
	for _, c := range []struct {
		name       string
		start, end int
		l          []roll.Line
		want       api.Errno
		added      int // so many of the lines at last
		to         int
	}{
		{"from 0 to 0", 0, 0, nil, api.OK, 0, 16},
		{"to the end", 16, 16, nil, api.OK, 0, 16},
		{"behind it", 16, 18, lines(16, "1/7 put a 1", "1/8 put b 2"), api.OK, 2, 18},
		{"behind it, further than the lines", 16, 40, lines(20, "1/7 put a 1"), api.OK, 1, 40},
		{"without lines", 16, 20, nil, api.OK, 0, 20},
		{"to 4096", 16, 4096, lines(4095, "1/7 put a 1"), api.OK, 1, 4096},
		{"of all known", 10, 15, some().Lines, api.OK, 0, 16},
		{"of others that are known", 3, 16, lines(3, "5/5 put a 9", "5/6 put n 9"), api.OK, 0, 16},
		{"of some known", 12, 18, lines(13, "1/6 del b.1", "11/1 add n 4", "3/3 put a 1", "3/4 put a 2", "3/5 put a 3"), api.OK, 2, 18},
		{"from 0, of some known", 0, 17, lines(15, "3/3 put a 1", "3/4 put a 2"), api.OK, 1, 17},
		{"lines that don't rise", 16, 20, append(lines(17, "1/7 put a 1"), lines(16, "1/8 put a 1")...), api.ErrForm, 0, 16},
		{"two at one place", 16, 20, append(lines(17, "1/7 put a 1"), lines(17, "1/8 put a 1")...), api.ErrForm, 0, 16},
		{"a line ahead of start", 16, 20, lines(15, "1/7 put a 1"), api.ErrForm, 0, 16},
		{"a line at end", 16, 20, lines(20, "1/7 put a 1"), api.ErrForm, 0, 16},
		{"a start below 0", -1, 20, nil, api.ErrForm, 0, 16},
		{"a start above end", 16, 15, nil, api.ErrForm, 0, 16},
		{"an end above 4096", 16, 4097, nil, api.ErrForm, 0, 16},
		{"the greatest end", 0, greatest, nil, api.ErrForm, 0, 16},
		{"the least ones", least, least, nil, api.ErrForm, 0, 16},
		{"a key outside", 16, 20, lines(16, "1/7 put a 1", "1/8 put m 1"), api.ErrReach, 0, 16},
		{"a key outside, known", 10, 20, lines(10, "1/8 put m 1"), api.ErrReach, 0, 16},
		{"a gap", 17, 20, lines(17, "1/7 put a 1"), api.ErrGap, 0, 16},
		{"a gap without lines", 17, 17, nil, api.ErrGap, 0, 16},
		{"a gap at 4096", 4096, 4096, nil, api.ErrGap, 0, 16},
		{"a gap, and a key outside", 17, 20, lines(17, "1/7 put m 1"), api.ErrReach, 0, 16},
		{"a gap, and a line at end", 17, 20, lines(20, "1/7 put a 1"), api.ErrForm, 0, 16},
		{"a key outside, and an end above 4096", 16, 4097, lines(17, "1/7 put m 1"), api.ErrForm, 0, 16},
	} {
		s, want := of(t, abn, some()), some()
		if e := s.Grow(c.start, c.end, c.l); e != c.want {
			t.Errorf("%s: %d, want %d", c.name, e, c.want)
		}
		want.Lines = append(want.Lines, c.l[len(c.l)-c.added:]...)
		want.End = c.to
		is(t, s, abn, want)
	}
	bad := lines(16, "1/7 put a 1")
	bad[0].Write.Op.Kind = 9
	if e := of(t, abn, some()).Grow(16, 20, bad); e != api.ErrForm {
		t.Errorf("a write that isn't good: %d", e)
	}
}

func TestP15_1_Leap(t *testing.T) {
	for _, c := range []struct {
		name string
		base int
		c    []api.Cell
		l    roll.Lasts
		want api.Errno
	}{
		{"just above the end", 17, cells("a", 1, "n.1", 2), roll.Lasts{1: 7}, api.OK},
		{"to 4096", 4096, cells("b", 1), roll.Lasts{1: 40, 11: 40}, api.OK},
		{"to no cells, lasts below what they were", 20, nil, roll.Lasts{}, api.OK},
		{"to the end", 16, cells("a", 1), roll.Lasts{}, api.ErrBelow},
		{"to the base", 10, cells("a", 1), roll.Lasts{}, api.ErrBelow},
		{"to 0", 0, nil, roll.Lasts{}, api.ErrBelow},
		{"below 0", -1, nil, roll.Lasts{}, api.ErrForm},
		{"the least", least, nil, roll.Lasts{}, api.ErrForm},
		{"above 4096", 4097, nil, roll.Lasts{}, api.ErrForm},
		{"the greatest", greatest, nil, roll.Lasts{}, api.ErrForm},
		{"cells that don't rise", 20, cells("b", 1, "a", 1), roll.Lasts{}, api.ErrForm},
		{"lasts of the root", 20, nil, roll.Lasts{1}, api.ErrForm},
		{"lasts above 40", 20, nil, roll.Lasts{5: 41}, api.ErrForm},
		{"a key outside", 20, cells("a", 1, "m", 1), roll.Lasts{}, api.ErrReach},
		{"a key outside, to the end", 16, cells("m", 1), roll.Lasts{}, api.ErrReach},
		{"a key outside, above 4096", 4097, cells("m", 1), roll.Lasts{}, api.ErrForm},
		{"lasts above 40, to the end", 16, nil, roll.Lasts{5: 41}, api.ErrForm},
	} {
		s, want := of(t, abn, some()), some()
		if e := s.Leap(c.base, c.c, c.l); e != c.want {
			t.Errorf("%s: %d, want %d", c.name, e, c.want)
		}
		if c.want == api.OK {
			want = spine.Stem{Base: c.base, End: c.base, Cells: c.c, Lasts: c.l}
		}
		is(t, s, abn, want)
	}
}

func TestP15_1_Cut(t *testing.T) {
	for _, c := range []struct {
		at   int
		want api.Errno
		x    spine.Stem
	}{
		{10, api.OK, some()},
		{11, api.OK, spine.Stem{Base: 11, End: 16, Cells: cells("a", 10, "b.1", 5), Lasts: roll.Lasts{1: 5, 2: 6}, Lines: some().Lines[1:]}},
		{12, api.OK, spine.Stem{Base: 12, End: 16, Cells: cells("a", 10, "b.1", 5, "n", 1), Lasts: roll.Lasts{1: 5, 2: 7}, Lines: some().Lines[2:]}},
		{13, api.OK, spine.Stem{Base: 13, End: 16, Cells: cells("a", 10, "b.1", 5, "n", 1), Lasts: roll.Lasts{1: 5, 2: 7}, Lines: some().Lines[2:]}},
		{14, api.OK, spine.Stem{Base: 14, End: 16, Cells: cells("a", 10, "n", 1), Lasts: roll.Lasts{1: 6, 2: 7}, Lines: some().Lines[3:]}},
		{16, api.OK, spine.Stem{Base: 16, End: 16, Cells: cells("a", 10, "n", 5), Lasts: roll.Lasts{1: 6, 2: 7, 11: 1}}},
		{17, api.ErrRange, some()}, {4096, api.ErrRange, some()}, {greatest, api.ErrRange, some()},
		{9, api.ErrBelow, some()}, {0, api.ErrBelow, some()}, {-1, api.ErrBelow, some()}, {least, api.ErrBelow, some()},
	} {
		s := of(t, abn, some())
		for range 2 { // twice at one place it is the same
			if e := s.Cut(c.at); e != c.want {
				t.Errorf("Cut(%d): %d, want %d", c.at, e, c.want)
			}
			is(t, s, abn, c.x)
		}
	}
}

func TestP15_1_From(t *testing.T) {
	s := of(t, abn, some())
	for _, c := range []struct {
		at   int
		r    api.Reach
		want api.Errno
		l    []roll.Line
	}{
		{10, abn, api.OK, some().Lines}, {11, abn, api.OK, some().Lines[1:]}, {12, abn, api.OK, some().Lines[2:]}, {16, abn, api.OK, nil},
		{10, api.Reach{"n"}, api.OK, []roll.Line{some().Lines[1], some().Lines[3]}}, {10, api.Reach{"b.1"}, api.OK, some().Lines[2:3]}, {10, api.Reach{"b.2"}, api.OK, nil}, {10, nil, api.OK, nil}, {14, api.Reach{"a", "n"}, api.OK, some().Lines[3:]},
		{10, api.Reach{""}, api.ErrReach, nil}, {10, api.Reach{"a", "m"}, api.ErrReach, nil},
		{17, abn, api.ErrRange, nil}, {greatest, abn, api.ErrRange, nil}, {9, abn, api.ErrBelow, nil}, {-1, abn, api.ErrBelow, nil}, {least, nil, api.ErrBelow, nil},
		{17, api.Reach{"m"}, api.ErrReach, nil}, {9, api.Reach{"m"}, api.ErrReach, nil},
	} {
		if l, e := s.From(c.at, c.r); e != c.want || !slices.Equal(l, c.l) {
			t.Errorf("From(%d, %q): %v, %d, want %v, %d", c.at, c.r, l, e, c.l, c.want)
		}
	}
	is(t, s, abn, some())
}

// P15.2: a cut at each place, of many spines.
func TestP15_2_CutAndTheSame(t *testing.T) {
	r := rand.New(rand.NewSource(152))
	for range 200 {
		n := r.Intn(60)
		s := spine.New(api.Reach{""})
		if e := s.Grow(0, n, order(r, n)); e != api.OK {
			t.Fatalf("Grow: %d", e)
		}
		whole := s.Stem()
		end, lasts, state := s.End(), s.Lasts(), s.State()
		for at := 0; at <= n; at += 1 + r.Intn(9) {
			if e := s.Cut(at); e != api.OK {
				t.Fatalf("Cut(%d) of %d: %d", at, n, e)
			}
			if s.End() != end || s.Lasts() != lasts || !slices.Equal(s.State(), state) || s.Base() != at {
				t.Fatalf("Cut(%d) has changed end, lasts or state", at)
			}
			is(t, s, api.Reach{""}, spine.Stem{Base: at, End: n, Cells: fold(nil, whole.Lines[:at]), Lasts: last(roll.Lasts{}, whole.Lines[:at]), Lines: whole.Lines[at:]})
		}
	}
}

// P15.3: a spine that follows another one, which is cut now and then; a third one follows that.
func TestP15_3_APartOfTheOrder(t *testing.T) {
	r := rand.New(rand.NewSource(153))
	for range 200 {
		all := order(r, 120)
		chain := []*spine.Spine{spine.New(api.Reach{""}), spine.New(api.Reach{"a", "b", "n"}), spine.New([]api.Reach{{"a"}, {"a.1", "n"}, {"b"}, nil, {"n.5"}}[r.Intn(5)])}
		leaps := 0
		for at := 0; at < len(all); {
			to := min(at+1+r.Intn(9), len(all))
			if e := chain[0].Grow(at, to, all[at:to]); e != api.OK {
				t.Fatalf("Grow: %d", e)
			}
			at = to
			for i := range chain {
				if x := chain[i]; r.Intn(3) == 0 && x.Cut(x.Base()+r.Intn(x.End()-x.Base()+1)) != api.OK {
					t.Fatal("Cut")
				}
				if i > 0 && r.Intn(3) > 0 {
					leaps += follow(t, chain[i], chain[i-1])
				}
			}
		}
		for i := 1; i < len(chain); i++ {
			leaps += follow(t, chain[i], chain[i-1])
			if chain[i].End() != len(all) || !slices.Equal(chain[i].State(), only(fold(nil, all), chain[i].Reach())) {
				t.Fatalf("number %d sees %v of %v", i, chain[i].State(), fold(nil, all))
			}
		}
		if leaps == 0 {
			t.Log("no leap")
		}
	}
}

// follow has a spine take what another one has, and looks whether it has it then; it tells whether it leapt.
func follow(t *testing.T, s, other *spine.Spine) int {
	t.Helper()
	leaps := 0
	if s.End() < other.Base() {
		if e := s.Leap(other.Base(), only(other.Stem().Cells, s.Reach()), other.Stem().Lasts); e != api.OK {
			t.Fatalf("Leap: %d", e)
		}
		leaps++
	}
	start := s.End()
	l, e := other.From(start, s.Reach())
	if e != api.OK {
		t.Fatalf("From(%d): %d", start, e)
	}
	if e := s.Grow(start, other.End(), l); e != api.OK {
		t.Fatalf("Grow: %d", e)
	}
	if s.End() != other.End() || !slices.Equal(s.State(), only(other.State(), s.Reach())) {
		t.Fatalf("it sees %v of %v", s.State(), other.State())
	}
	return leaps
}
