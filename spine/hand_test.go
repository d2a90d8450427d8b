package spine_test

import (
	"math"
	"math/rand"
	"slices"
	"strings"
	"testing"

	"spinney/api"
	"spinney/deed"
	"spinney/roll"
	"spinney/spine"
	"spinney/stamp"
)

const least, greatest = math.MinInt, math.MaxInt

func num(n int) api.Value { return api.Value{Kind: api.Int, Num: n} }

// write is that of a text: an id, a blank, an operation's line.
func write(s string) api.Write {
	a, b, _ := strings.Cut(s, " ")
	id, e := stamp.Read(a)
	o, f := deed.Read(b)
	if e != api.OK || f != api.OK {
		panic("no write: " + s)
	}
	return api.Write{Id: id, Op: o}
}

// lines are those of texts, from a place on; an empty text leaves its place out.
func lines(at int, l ...string) []roll.Line {
	var all []roll.Line
	for i, s := range l {
		if s != "" {
			all = append(all, roll.Line{At: at + i, Write: write(s)})
		}
	}
	return all
}

// cells are those of keys and ints, one behind the other.
func cells(l ...any) []api.Cell {
	var all []api.Cell
	for i := 0; i < len(l); i += 2 {
		all = append(all, api.Cell{Key: l[i].(string), Value: num(l[i+1].(int))})
	}
	return all
}

// fold is what writes leave of cells, by hand.
func fold(c []api.Cell, l []roll.Line) []api.Cell {
	m := map[string]api.Value{}
	for _, x := range c {
		m[x.Key] = x.Value
	}
	for _, x := range l {
		v, _ := deed.Do(x.Write.Op, m[x.Write.Op.Key])
		m[x.Write.Op.Key] = v
	}
	var all []api.Cell
	for k, v := range m {
		if v.Kind != api.None {
			all = append(all, api.Cell{Key: k, Value: v})
		}
	}
	slices.SortFunc(all, func(a, b api.Cell) int { return strings.Compare(a.Key, b.Key) })
	return all
}

func last(l roll.Lasts, x []roll.Line) roll.Lasts {
	for _, y := range x {
		l[y.Write.Id.Dev] = max(l[y.Write.Id.Dev], y.Write.Id.Seq)
	}
	return l
}

func part(x []roll.Line, at int, r api.Reach) []roll.Line {
	return slices.DeleteFunc(slices.Clone(x), func(y roll.Line) bool { return y.At < at || !has(r, y.Write.Op.Key) })
}

func only(c []api.Cell, r api.Reach) []api.Cell {
	return slices.DeleteFunc(slices.Clone(c), func(y api.Cell) bool { return !has(r, y.Key) })
}

func has(r api.Reach, key string) bool {
	return slices.ContainsFunc(r, func(p string) bool { return strings.HasPrefix(key, p) })
}

// same tells whether two stems are; lists that are nil and empty ones are.
func same(a, b spine.Stem) bool {
	return a.Base == b.Base && a.End == b.End && a.Lasts == b.Lasts && slices.Equal(a.Cells, b.Cells) && slices.Equal(a.Lines, b.Lines)
}

// is looks at all that a spine tells, beside its reach and stem told by hand.
func is(t *testing.T, s *spine.Spine, r api.Reach, want spine.Stem) {
	t.Helper()
	if got := s.Stem(); !same(got, want) {
		t.Fatalf("Stem: %v, want %v", got, want)
	}
	if got := s.Reach(); !slices.Equal(got, r) {
		t.Fatalf("Reach: %q, want %q", got, r)
	}
	if s.Base() != want.Base || s.End() != want.End || s.Lasts() != last(want.Lasts, want.Lines) {
		t.Fatalf("Base %d, End %d, Lasts %v of %v", s.Base(), s.End(), s.Lasts(), want)
	}
	if got := s.Writes(); !slices.EqualFunc(got, want.Lines, func(w api.Write, x roll.Line) bool { return w == x.Write }) {
		t.Fatalf("Writes: %v of %v", got, want)
	}
	if got := s.State(); !slices.Equal(got, fold(want.Cells, want.Lines)) {
		t.Fatalf("State: %v of %v", got, want)
	}
	for _, at := range []int{want.Base, (want.Base + want.End) / 2, want.End} {
		for _, x := range []api.Reach{r, nil} {
			if got, e := s.From(at, x); e != api.OK || !slices.Equal(got, part(want.Lines, at, x)) {
				t.Fatalf("From(%d, %q): %v, %d of %v", at, x, got, e, want)
			}
		}
	}
}

// of is a spine of a stem.
func of(t *testing.T, r api.Reach, x spine.Stem) *spine.Spine {
	t.Helper()
	s, e := spine.Of(r, x)
	if e != api.OK {
		t.Fatalf("Of(%q, %v): %d", r, x, e)
	}
	return s
}

// some is a stem of all keys of a, b and n, with a base of 10 and an end of 16.
func some() spine.Stem {
	return spine.Stem{Base: 10, End: 16, Cells: cells("a", 7, "b.1", 5), Lasts: roll.Lasts{1: 4, 2: 6}, Lines: lines(10, "1/5 add a 3", "2/7 put n 1", "", "1/6 del b.1", "11/1 add n 4")}
}

var abn = api.Reach{"a", "b", "n"}

// order is one of n writes by chance: each device's tight.
func order(r *rand.Rand, n int) []roll.Line {
	var known roll.Lasts
	var l []roll.Line
	for at := range n {
		dev := 1 + r.Intn(11)
		if known[dev] == 40 {
			dev = slices.IndexFunc(known[1:], func(n int) bool { return n < 40 }) + 1
		}
		known[dev]++
		key := []string{"a", "a.1", "a.x", "b", "b.1", "c", "n", "n.5"}[r.Intn(8)]
		o := []api.Op{{Kind: api.Put, Key: key, A: num(r.Intn(5))}, {Kind: api.Del, Key: key}, {Kind: api.Add, Key: key, A: num(r.Intn(9))}, {Kind: api.Cas, Key: key, A: num(r.Intn(5)), B: num(r.Intn(5))}, {Kind: api.Cas, Key: key, B: api.Value{Kind: api.Text, Text: "t"}}}[r.Intn(5)]
		l = append(l, roll.Line{At: at, Write: api.Write{Id: api.Id{Dev: dev, Seq: known[dev]}, Op: o}})
	}
	return l
}

var reaches = []api.Reach{{""}, {"a"}, {"a.", "b"}, {"a.1", "a.x", "n"}, {"c", "n.5"}, {"z"}, nil, {"a", "b", "c", "n"}}
