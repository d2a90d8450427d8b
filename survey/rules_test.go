package survey_test

import (
	"fmt"
	"slices"
	"strconv"
	"testing"

	"spinney/api"
	"spinney/arbor"
	"spinney/bough"
	"spinney/survey"
	"spinney/trellis"
)

// All calls end, and none panics: of any survey.
func TestP9_AnyArguments(t *testing.T) {
	a := made(t, tree("device 0 *"))
	for _, x := range []trellis.Tree{nil, tree(""), tree("hub 0 *;device 1 *;device 1 *"), {{Kind: 9, Parent: -5, Reach: api.Reach{"b", "\xff"}}, {}}, make(trellis.Tree, 50)} {
		for _, up := range [][]bool{nil, {true}, {true, true, true, true, true}, {false, true}, make([]bool, 60)} {
			for _, r := range [][]bough.Report{nil, {{}}, {{Node: -1, End: least, Queue: []api.Write{{}, {}}, Known: []api.Write{{Id: api.Id{Dev: greatest, Seq: least}}}, Cells: []api.Cell{{}, {Key: "\xff", Value: api.Value{Kind: 9, Num: 1, Text: "x"}}}}, {End: greatest}}, make([]bough.Report, 70)} {
				s := survey.Survey{Tree: x, Up: up, Reports: r}
				for _, n := range []int{least, -1, 0, 1, 2, 5, 49, 50, greatest} {
					survey.Lag(s, n)
					survey.Where(s, api.Id{Dev: n, Seq: n})
				}
				for _, key := range []string{"", "a", "\xff"} {
					survey.Split(s, key)
				}
				survey.Common(s)
				survey.Waiting(s)
				survey.Drained(s)
				survey.Writes(s)
			}
		}
		survey.Take(x, a)
	}
}

// R1.
func TestP10_R1_IntHas64Bits(t *testing.T) {
	if strconv.IntSize != 64 {
		t.Errorf("an int has %d bits", strconv.IntSize)
	}
	if _, e := survey.Lag(some(), 1<<32); e != api.ErrRange {
		t.Errorf("Lag: %d", e)
	}
}

// R2, R3: of two errors the first; beside it stands the zero value.
func TestP10_R2_TheFirstError(t *testing.T) {
	s := some()
	s.Up = make([]bool, 6)
	if n, e := survey.Lag(s, 9); n != 0 || e != api.ErrRange {
		t.Errorf("Lag: %d, %d", n, e)
	}
	if n, e := survey.Common(s); n != 0 || e != api.ErrDown {
		t.Errorf("Common: %d, %d", n, e)
	}
}

// R5: a list that is nil means the same as one that is empty.
func TestP10_R5_EmptyAndNil(t *testing.T) {
	for _, w := range [][]api.Write{nil, {}} {
		for _, c := range [][]api.Cell{nil, {}} {
			s := survey.Survey{Tree: tree(""), Up: []bool{true}, Reports: []bough.Report{{Queue: w, Tail: w, Known: w, Cells: c}}}
			if !survey.Drained(s) || survey.Waiting(s) != 0 || len(survey.Writes(s)) != 0 || fmt.Sprint(survey.Split(s, "a")) != "[[0]]" {
				t.Error("empty lists")
			}
		}
	}
}

// P26.3, and R4, R6: what is handed in stays; answers are new memory.
func TestP26_3_Memory(t *testing.T) {
	s := some()
	was := fmt.Sprint(s)
	for range 2 {
		a, b := survey.Where(s, api.Id{Dev: 1, Seq: 1}), survey.Where(s, api.Id{Dev: 1, Seq: 1})
		clear(a[:cap(a)])
		c, d := survey.Split(s, "a"), survey.Split(s, "a")
		for i := range c {
			clear(c[i][:cap(c[i])])
		}
		clear(c[:cap(c)])
		e, f := survey.Writes(s), survey.Writes(s)
		clear(e[:cap(e)])
		survey.Drained(s)
		survey.Common(s)
		survey.Waiting(s)
		survey.Lag(s, 1)
		if fmt.Sprint(s) != was || fmt.Sprint(b) != "[1 1 3 0 1 0]" || fmt.Sprint(d) != "[[0 1 4] [2] [5]]" || len(f) != 5 || f[0] != (api.Id{Dev: 1, Seq: 1}) {
			t.Fatal("what was handed in has changed, or two answers share memory")
		}
	}
	// Groups of one answer share none.
	g := survey.Split(s, "a")
	g[0] = append(g[0], 7, 7, 7)
	if !slices.Equal(g[1], []int{2}) {
		t.Errorf("groups share memory: %v", g)
	}
	x := tree("hub 0 *;device 1 *")
	a := made(t, x)
	a.Do(arbor.Act{Kind: arbor.Write, A: 2, Op: op("put a 1")})
	y, z := survey.Take(x, a), survey.Take(x, a)
	want := fmt.Sprint(z)
	for i := range x {
		x[i].Reach[0], x[i].Kind = "z", 9
		y.Tree[i].Reach[0], y.Up[i], y.Reports[i] = "y", false, bough.Report{}
	}
	if fmt.Sprint(z) != want || fmt.Sprint(survey.Take(tree("hub 0 *;device 1 *"), a)) != want {
		t.Error("a survey shares memory with a tree, or another one")
	}
	clear(z.Reports[2].Queue)
	if len(a.Report(2).Queue) != 1 || a.Report(2).Queue[0].Id.Seq != 1 {
		t.Error("the arbor has changed")
	}
	a.Do(arbor.Act{Kind: arbor.Calm, A: 9})
	if survey.Waiting(z) != 1 {
		t.Error("a survey has changed with the arbor")
	}
}

// R8: the same again.
func TestP10_R8_TheSameAgain(t *testing.T) {
	want := fmt.Sprint(survey.Writes(some()), survey.Split(some(), "a"), survey.Waiting(some()))
	for range 20 {
		if got := fmt.Sprint(survey.Writes(some()), survey.Split(some(), "a"), survey.Waiting(some())); got != want {
			t.Errorf("%s, want %s", got, want)
		}
	}
}
