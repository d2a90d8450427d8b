package pith_test

import (
	"math"
	"math/rand"
	"reflect"
	"slices"
	"strconv"
	"strings"
	"testing"

	"spinney/api"
	"spinney/deed"
	"spinney/pith"
	"spinney/roll"
	"spinney/spine"
	"spinney/stamp"
)

const least, greatest = math.MinInt, math.MaxInt

func num(n int) api.Value { return api.Value{Kind: api.Int, Num: n} }

// write is that of a text: an id, a blank, an operation's line.
func write(s string) api.Write {
	a, b, _ := strings.Cut(s, " ")
	id, e := stamp.Read(a)
	o, f := deed.Read(b)
	if e != api.OK || f != api.OK {
		panic("no write: " + s)
	}
	return api.Write{Id: id, Op: o}
}

func writes(l ...string) []api.Write {
	var all []api.Write
	for _, s := range l {
		all = append(all, write(s))
	}
	return all
}

// lines are those of texts, from a place on; an empty text leaves its place out.
func lines(at int, l ...string) []roll.Line {
	var all []roll.Line
	for i, s := range l {
		if s != "" {
			all = append(all, roll.Line{At: at + i, Write: write(s)})
		}
	}
	return all
}

func cells(l ...any) []api.Cell {
	var all []api.Cell
	for i := 0; i < len(l); i += 2 {
		all = append(all, api.Cell{Key: l[i].(string), Value: num(l[i+1].(int))})
	}
	return all
}

// many are n writes of different ids upon a.
func many(n int) []api.Write {
	var l []api.Write
	for i := range n {
		l = append(l, write(strconv.Itoa(1+i/40)+"/"+strconv.Itoa(1+i%40)+" add a 1"))
	}
	return l
}

// some is device 3's state, in the midst of its life.
func some() pith.State {
	return pith.State{Node: 3, Life: 5, Parent: 1, Room: 4, Reach: api.Reach{"a", "b"},
		Stem:  spine.Stem{Base: 10, End: 14, Cells: cells("a", 7, "b.1", 5), Lasts: roll.Lasts{1: 4, 3: 2}, Lines: lines(10, "1/5 add a 3", "", "3/3 put b 1")},
		Tail:  writes("1/6 put a 1", "3/4 put a 2"),
		Queue: writes("3/4 put a 2", "3/5 put b 2", "3/6 del a")}
}

// rootState is the root's, with an order of three.
func rootState() pith.State {
	return pith.State{Life: 2, Parent: -1, Room: 40, Reach: api.Reach{""}, Stem: spine.Stem{Base: 1, End: 3, Cells: cells("a", 1), Lasts: roll.Lasts{1: 1}, Lines: lines(1, "1/2 add a 1", "4/1 put z 1")}}
}

// field is one of an entry's, with a way to have something good there; uses are the fields of each kind.
type field struct {
	name string
	set  func(e *pith.Entry)
}

func fields() []field {
	return []field{
		{"N", func(e *pith.Entry) { e.N = 1 }}, {"Start", func(e *pith.Entry) { e.Start = 1 }}, {"End", func(e *pith.Entry) { e.End = 1 }}, {"Write", func(e *pith.Entry) { e.Write = write("3/7 put a 1") }}, {"Lines", func(e *pith.Entry) { e.Lines = lines(14, "1/6 put a 1") }}, {"Cells", func(e *pith.Entry) { e.Cells = cells("a", 1) }}, {"Lasts", func(e *pith.Entry) { e.Lasts[11] = 1 }}, {"Tail", func(e *pith.Entry) { e.Tail = writes("2/1 put a 1") }},
	}
}

func uses(kind int, name string) bool {
	words := map[int]string{pith.Born: "N", pith.Took: "Write", pith.Grew: "Start End Lines Tail", pith.Leapt: "N Cells Lasts Tail", pith.Moved: "N", pith.Cut: "N"}
	return slices.Contains(strings.Fields(words[kind]), name)
}

// tidy is a state with lists that are nil, where they are empty, so that states may be compared whole.
func tidy(s pith.State) pith.State {
	if len(s.Reach) == 0 {
		s.Reach = nil
	}
	if len(s.Stem.Cells) == 0 {
		s.Stem.Cells = nil
	}
	if len(s.Stem.Lines) == 0 {
		s.Stem.Lines = nil
	}
	if len(s.Tail) == 0 {
		s.Tail = nil
	}
	if len(s.Queue) == 0 {
		s.Queue = nil
	}
	return s
}

func same(a, b pith.State) bool { return reflect.DeepEqual(tidy(a), tidy(b)) }

func sameEntry(a, b pith.Entry) bool {
	return a.Kind == b.Kind && a.N == b.N && a.Start == b.Start && a.End == b.End && a.Write == b.Write && a.Lasts == b.Lasts && slices.Equal(a.Lines, b.Lines) && slices.Equal(a.Cells, b.Cells) && slices.Equal(a.Tail, b.Tail)
}

// does does an entry, and looks at what it answers, and that what is left is good.
func does(t *testing.T, name string, s pith.State, e pith.Entry, errno api.Errno, want pith.State) {
	t.Helper()
	if !pith.Good(s) {
		t.Fatalf("%s: done upon a state that isn't good: %v", name, s)
	}
	got, x := pith.Do(s, e)
	if x != errno {
		t.Errorf("%s: %d, want %d", name, x, errno)
		return
	}
	if errno != api.OK {
		want = pith.State{}
	}
	if !same(got, want) {
		t.Errorf("%s: %v, want %v", name, got, want)
	}
	if errno == api.OK && !pith.Good(got) {
		t.Errorf("%s: what is left isn't good: %v", name, got)
	}
}

// with is a state that was changed.
func with(s pith.State, change func(s *pith.State)) pith.State {
	change(&s)
	return s
}

// entry is one by chance, of which it is likely that it may be done upon a state.
func entry(r *rand.Rand, s pith.State) pith.Entry {
	word := func() string {
		key := []string{"a", "a.1", "b", "b.x"}[r.Intn(4)]
		return []string{"put " + key + " " + strconv.Itoa(r.Intn(9)), "del " + key, "add " + key + " 2", "cas " + key + " nil 1"}[r.Intn(4)]
	}
	next := func(l roll.Lasts) string {
		dev := 1 + r.Intn(5)
		return strconv.Itoa(dev) + "/" + strconv.Itoa(min(40, l[dev]+1)) + " " + word()
	}
	tail := func() []api.Write {
		var l []api.Write
		for i := range r.Intn(4) {
			l = append(l, write(strconv.Itoa(6+i)+"/"+strconv.Itoa(1+r.Intn(40))+" "+word()))
		}
		return l
	}
	switch kind := 1 + r.Intn(7); kind {
	case pith.Born:
		return pith.Entry{Kind: kind, N: s.Life + r.Intn(3)}
	case pith.Moved:
		return pith.Entry{Kind: kind, N: r.Intn(13) - 1}
	case pith.Cut:
		return pith.Entry{Kind: kind, N: s.Stem.Base + r.Intn(s.Stem.End-s.Stem.Base+2)}
	case pith.Grew:
		e := pith.Entry{Kind: kind, Start: max(0, s.Stem.End-r.Intn(3)), Tail: tail()}
		l := roll.Lasts{}
		for dev, n := range s.Stem.Lasts {
			l[dev] = n
		}
		for _, x := range s.Stem.Lines {
			l[x.Write.Id.Dev] = max(l[x.Write.Id.Dev], x.Write.Id.Seq)
		}
		e.End = e.Start
		for range r.Intn(5) {
			w := write(next(l))
			if e.End >= s.Stem.End && w.Id.Seq == l[w.Id.Dev]+1 && r.Intn(4) > 0 {
				e.Lines = append(e.Lines, roll.Line{At: e.End, Write: w})
				l[w.Id.Dev]++
			}
			e.End++
		}
		return e
	case pith.Leapt:
		e := pith.Entry{Kind: kind, N: s.Stem.End + r.Intn(4), Cells: cells("a", r.Intn(5), "b.1", 1), Tail: tail()}
		for dev := 1; dev < 6; dev++ {
			e.Lasts[dev] = max(0, min(40, pith.Lasts(s)[dev]+r.Intn(3)-1))
		}
		return e
	}
	return pith.Entry{Kind: pith.Took, Write: write(next(pith.Lasts(s)))}
}
