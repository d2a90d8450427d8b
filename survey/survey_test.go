package survey_test

import (
	"fmt"
	"math"
	"math/rand"
	"slices"
	"strconv"
	"strings"
	"testing"

	"spinney/api"
	"spinney/arbor"
	"spinney/bough"
	"spinney/deed"
	"spinney/stamp"
	"spinney/survey"
	"spinney/trellis"
)

const least, greatest = math.MinInt, math.MaxInt

func num(n int) api.Value { return api.Value{Kind: api.Int, Num: n} }

func op(s string) api.Op {
	o, e := deed.Read(s)
	if e != api.OK {
		panic("no operation: " + s)
	}
	return o
}

func tree(s string) trellis.Tree {
	if s != "" {
		s = strings.ReplaceAll(s, ";", "\n") + "\n"
	}
	t, e := trellis.Read(s)
	if e != api.OK {
		panic("no tree: " + s)
	}
	return t
}

func made(t *testing.T, x trellis.Tree) *arbor.Arbor {
	t.Helper()
	a, e := arbor.New(x, 3)
	if e != api.OK {
		t.Fatalf("New: %d", e)
	}
	return a
}

// list is one of writes of ids, with a blank between.
func list(s string) []api.Write {
	var l []api.Write
	for _, f := range strings.Fields(s) {
		id, e := stamp.Read(f)
		if e != api.OK {
			panic(f)
		}
		l = append(l, api.Write{Id: id, Op: op("put a 1")})
	}
	return l
}

// report is one of a node that is up.
func report(n, end int, known, queue, tail string, c ...api.Cell) bough.Report {
	return bough.Report{Node: n, Life: 1, End: end, Known: list(known), Queue: list(queue), Tail: list(tail), Cells: c}
}

func cell(key string, v api.Value) api.Cell { return api.Cell{Key: key, Value: v} }

// some is a survey of six nodes, of which one is down, though it is told with a report.
func some() survey.Survey {
	return survey.Survey{
		Tree: tree("hub 0 a,b;device 1 a;device 1 b;hub 0 *;device 4 *"),
		Up:   []bool{true, true, true, false, true, true},
		Reports: []bough.Report{
			report(0, 5, "1/1 2/1", "", "", cell("a", num(1)), cell("b", num(2))),
			report(1, 4, "1/1", "2/1 2/2", "5/1 2/2", cell("a", num(1)), cell("b", num(3))),
			report(2, 6, "", "2/1 2/2 2/3", "1/1 2/2", cell("a", num(2))),
			report(3, 1, "9/9", "9/8", "9/7", cell("b", num(2))),
			report(4, 5, "1/1 2/1", "5/1", "", cell("a", num(1)), cell("b", num(2))),
			report(5, 5, "", "5/1", "5/1", cell("a", api.Value{Kind: api.Text, Text: "1"})),
		},
	}
}

func TestP26_1_Example(t *testing.T) {
	x := tree("hub 0 *;device 1 *")
	a := made(t, x)
	a.Do(arbor.Act{Kind: arbor.Write, A: 2, Op: op("put a 1")})
	s := survey.Take(x, a)
	if n := survey.Waiting(s); n != 1 {
		t.Errorf("Waiting: %d", n)
	}
	if n, e := survey.Lag(s, 2); n != 0 || e != api.OK {
		t.Errorf("Lag: %d, %d", n, e)
	}
	if got := survey.Split(s, "a"); fmt.Sprint(got) != "[[0 1] [2]]" {
		t.Errorf("Split: %v", got)
	}
}

func TestP26_1_Ways(t *testing.T) {
	if survey.Nowhere != 0 || survey.Known != 1 || survey.Waits != 2 || survey.Told != 3 {
		t.Errorf("ways: %d, %d, %d, %d", survey.Nowhere, survey.Known, survey.Waits, survey.Told)
	}
}

func TestP26_1_Take(t *testing.T) {
	x := tree("hub 0 *;device 1 a")
	a := made(t, x)
	a.Do(arbor.Act{Kind: arbor.Write, A: 2, Op: op("put a 1")})
	a.Do(arbor.Act{Kind: arbor.Crash, A: 1})
	s := survey.Take(x, a)
	if trellis.Text(s.Tree) != trellis.Text(x) || fmt.Sprint(s.Up) != "[true false true]" {
		t.Errorf("Take: %v, %v", trellis.Text(s.Tree), s.Up)
	}
	for n := range x {
		if fmt.Sprint(s.Reports[n]) != fmt.Sprint(a.Report(n)) {
			t.Errorf("node %d: %v, want %v", n, s.Reports[n], a.Report(n))
		}
	}
}

func TestP26_1_Lag(t *testing.T) {
	s := some()
	for n, want := range []int{0, 1, -1, 0, 0, 0} {
		e := api.OK
		if n == 3 {
			want, e = 0, api.ErrDown
		}
		if got, f := survey.Lag(s, n); got != want || f != e {
			t.Errorf("Lag(%d): %d, %d, want %d, %d", n, got, f, want, e)
		}
	}
	for _, n := range []int{6, -1, 12, least, greatest} {
		if got, e := survey.Lag(s, n); got != 0 || e != api.ErrRange {
			t.Errorf("Lag(%d): %d, %d", n, got, e)
		}
	}
	s.Up[0] = false
	for n := range 6 {
		if got, e := survey.Lag(s, n); got != 0 || e != api.ErrDown {
			t.Errorf("with the root down, Lag(%d): %d, %d", n, got, e)
		}
	}
	if _, e := survey.Lag(s, 6); e != api.ErrRange {
		t.Errorf("with the root down, Lag(6): %d", e)
	}
}

func TestP26_1_Common(t *testing.T) {
	s := some()
	for _, c := range []struct {
		down, want int
		e          api.Errno
	}{{3, 4, api.OK}, {1, 5, api.OK}, {0, 5, api.OK}, {4, 5, api.OK}, {5, 6, api.OK}, {2, 0, api.ErrDown}} {
		s.Up[c.down] = false
		if got, e := survey.Common(s); got != c.want || e != c.e {
			t.Errorf("Common without %d: %d, %d, want %d, %d", c.down, got, e, c.want, c.e)
		}
	}
	if got, e := survey.Common(survey.Survey{}); got != 0 || e != api.ErrDown {
		t.Errorf("Common of no node: %d, %d", got, e)
	}
}

func TestP26_1_WaitingWhereWrites(t *testing.T) {
	s := some()
	if n := survey.Waiting(s); n != 4 { // 2/1, 2/2, 2/3, 5/1
		t.Errorf("Waiting: %d", n)
	}
	for id, want := range map[string][]survey.Way{
		"1/1": {survey.Known, survey.Known, survey.Told, survey.Nowhere, survey.Known, survey.Nowhere},
		"2/1": {survey.Known, survey.Waits, survey.Waits, survey.Nowhere, survey.Known, survey.Nowhere},
		"2/2": {survey.Nowhere, survey.Waits, survey.Waits, survey.Nowhere, survey.Nowhere, survey.Nowhere},
		"5/1": {survey.Nowhere, survey.Told, survey.Nowhere, survey.Nowhere, survey.Waits, survey.Waits},
		"9/9": make([]survey.Way, 6), "9/8": make([]survey.Way, 6), "9/7": make([]survey.Way, 6), "7/7": make([]survey.Way, 6),
	} {
		if got := survey.Where(s, list(id)[0].Id); !slices.Equal(got, want) {
			t.Errorf("Where of %s: %v, want %v", id, got, want)
		}
	}
	if got := survey.Writes(s); !slices.Equal(got, stamp.Ids(list("1/1 2/1 2/2 2/3 5/1"))) {
		t.Errorf("Writes: %v", got)
	}
	s.Up[3], s.Up[2] = true, false
	if got := survey.Writes(s); !slices.Equal(got, stamp.Ids(list("1/1 2/1 2/2 5/1 9/7 9/8 9/9"))) || survey.Waiting(s) != 4 {
		t.Errorf("Writes: %v, %d", got, survey.Waiting(s))
	}
	if got := survey.Where(s, api.Id{Dev: 9, Seq: 9}); !slices.Equal(got, []survey.Way{0, 0, 0, survey.Known, 0, 0}) {
		t.Errorf("Where: %v", got)
	}
	// One id in all three ways at one node.
	s.Reports[0].Queue, s.Reports[0].Tail = list("1/1 8/1"), list("1/1 8/1 8/2")
	for id, want := range map[string]survey.Way{"1/1": survey.Known, "8/1": survey.Waits, "8/2": survey.Told} {
		if got := survey.Where(s, list(id)[0].Id)[0]; got != want {
			t.Errorf("Where of %s: %v, want %v", id, got, want)
		}
	}
}

func TestP26_1_Drained(t *testing.T) {
	for _, nodes := range []string{"", "device 0 *", "hub 0 *;device 1 a"} {
		x := tree(nodes)
		good := func() survey.Survey {
			s := survey.Survey{Tree: x}
			for n := range x {
				s.Up, s.Reports = append(s.Up, true), append(s.Reports, report(n, 7, "1/1", "", ""))
			}
			return s
		}
		if !survey.Drained(good()) {
			t.Errorf("%q: not drained", nodes)
		}
		for n := range x {
			for name, spoil := range map[string]func(s *survey.Survey){
				"down":    func(s *survey.Survey) { s.Up[n] = false },
				"a queue": func(s *survey.Survey) { s.Reports[n].Queue = list("1/2") },
				"a tail":  func(s *survey.Survey) { s.Reports[n].Tail = list("1/2") },
				"below":   func(s *survey.Survey) { s.Reports[n].End = 6 },
				"above":   func(s *survey.Survey) { s.Reports[n].End = 8 },
			} {
				s := good()
				spoil(&s)
				if want := len(x) == 1 && (name == "below" || name == "above"); survey.Drained(s) != want {
					t.Errorf("%q, node %d %s: drained %v", nodes, n, name, !want)
				}
			}
		}
	}
	if survey.Drained(survey.Survey{}) {
		t.Error("no node is drained")
	}
}

func TestP26_1_Split(t *testing.T) {
	s := some()
	for key, want := range map[string]string{
		"a": "[[0 1 4] [2] [5]]", "b": "[[0 4] [1] [5]]", // 3 is down, 2 hasn't b
		"c": "[[0 4 5]]", "ax": "[[0 1 2 4 5]]", "": "[[0 4 5]]", "\xff": "[[0 4 5]]",
	} {
		if got := survey.Split(s, key); fmt.Sprint(got) != want {
			t.Errorf("Split of %q: %v, want %s", key, got, want)
		}
	}
	s.Up[3] = true
	if got := survey.Split(s, "b"); fmt.Sprint(got) != "[[0 3 4] [1] [5]]" {
		t.Errorf("Split of b: %v", got)
	}
	// Each sees another value; a key that one alone has; that none has.
	for n := range s.Reports {
		s.Reports[n].Cells = []api.Cell{cell("a", num(n)), cell("b", num(-n))}
	}
	if got := survey.Split(s, "a"); fmt.Sprint(got) != "[[0] [1] [2] [4] [5]]" {
		t.Errorf("Split of a: %v", got)
	}
	for n := range s.Tree {
		s.Tree[n].Reach = api.Reach{"z" + strconv.Itoa(n)}
	}
	if got := survey.Split(s, "z4.1"); fmt.Sprint(got) != "[[4]]" {
		t.Errorf("Split of one: %v", got)
	}
	if got := survey.Split(s, "a"); len(got) != 0 {
		t.Errorf("Split of none: %v", got)
	}
	for n := range s.Up {
		s.Up[n] = false
	}
	if got := survey.Split(s, "z4"); len(got) != 0 {
		t.Errorf("Split with all down: %v", got)
	}
}

// act is one by chance.
func act(r *rand.Rand, x trellis.Tree) arbor.Act {
	n := r.Intn(len(x))
	switch r.Intn(12) {
	case 0, 1:
		if x[n].Kind == trellis.Device && len(x[n].Reach) > 0 {
			return arbor.Act{Kind: arbor.Write, A: n, Op: op("put " + x[n].Reach[0] + "a " + strconv.Itoa(r.Intn(4)))}
		}
	case 2:
		return arbor.Act{Kind: []int{arbor.Lose, arbor.Double, arbor.Cut, arbor.Crash, arbor.Start, arbor.Move, arbor.Fail}[r.Intn(7)], A: n, B: r.Intn(len(x))}
	case 3, 4, 5, 6:
		return arbor.Act{Kind: arbor.Tick, A: n}
	}
	return arbor.Act{Kind: arbor.Deliver, A: r.Intn(5)}
}

// P26.2: over scripts: where all is drained nobody waits, none lags, and nobody splits.
func TestP26_2_WhereAllIsDrained(t *testing.T) {
	drained, not := 0, 0
	for i, x := range []trellis.Tree{tree(""), tree("device 0 *"), tree("hub 0 *;device 1 *;device 1 a;device 0 *"), tree("hub 0 a,b;hub 1 a;device 2 a;device 1 b;device 0 *")} {
		r := rand.New(rand.NewSource(int64(26 + i)))
		a := made(t, x)
		for j := range 400 {
			if j%40 == 39 {
				a.Do(arbor.Act{Kind: arbor.Calm, A: r.Intn(20)})
			} else {
				a.Do(act(r, x))
			}
			s := survey.Take(x, a)
			looks(t, s)
			if !survey.Drained(s) {
				not++
				continue
			}
			drained++
			if survey.Waiting(s) != 0 {
				t.Fatalf("%d wait", survey.Waiting(s))
			}
			for n := range x {
				if lag, e := survey.Lag(s, n); lag != 0 || e != api.OK {
					t.Fatalf("node %d lags by %d", n, lag)
				}
			}
			for _, key := range []string{"a", "aa", "b", "ba", "c", ""} {
				if got := survey.Split(s, key); len(got) > 1 {
					t.Fatalf("at %s they split: %v", key, got)
				}
			}
		}
	}
	if drained < 100 || not < 100 {
		t.Errorf("%d drained, %d not", drained, not)
	}
}

// looks looks at what is told of a survey, beside what its reports have by hand.
func looks(t *testing.T, s survey.Survey) {
	t.Helper()
	waits, all := map[api.Id]bool{}, map[api.Id]bool{}
	common := greatest
	for n, r := range s.Reports {
		if !s.Up[n] {
			continue
		}
		common = min(common, r.End)
		for _, w := range r.Queue {
			waits[w.Id] = true
		}
		for _, w := range slices.Concat(r.Known, r.Queue, r.Tail) {
			all[w.Id] = true
		}
	}
	ids := survey.Writes(s)
	if survey.Waiting(s) != len(waits) || len(ids) != len(all) || !slices.IsSortedFunc(ids, stamp.Compare) {
		t.Fatalf("Waiting %d, Writes %v, want %d, %v", survey.Waiting(s), ids, len(waits), all)
	}
	if got, e := survey.Common(s); e == api.OK && got != common || e == api.ErrDown && common != greatest {
		t.Fatalf("Common: %d, %d, want %d", got, e, common)
	}
	for _, id := range ids {
		some := false
		for _, w := range survey.Where(s, id) {
			some = some || w != survey.Nowhere
		}
		if !all[id] || !some {
			t.Fatalf("Writes: %v", id)
		}
	}
	seen := map[int]bool{}
	for _, g := range survey.Split(s, "aa") {
		for _, n := range g {
			if seen[n] || !s.Up[n] || !slices.IsSorted(g) {
				t.Fatalf("Split: %v", g)
			}
			seen[n] = true
		}
	}
}
