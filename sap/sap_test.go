package sap_test

import (
	"math/rand"
	"slices"
	"strconv"
	"strings"
	"testing"

	"spinney/api"
	"spinney/deed"
	"spinney/sap"
	"spinney/stamp"
)

func num(n int) api.Value     { return api.Value{Kind: api.Int, Num: n} }
func text(s string) api.Value { return api.Value{Kind: api.Text, Text: s} }

// list is one of writes, told by ids with a blank between: of each id just one operation.
func list(s string) []api.Write {
	var l []api.Write
	for _, f := range strings.Fields(s) {
		id, e := stamp.Read(f)
		if e != api.OK {
			panic(f)
		}
		l = append(l, api.Write{Id: id, Op: op(id.Dev*41 + id.Seq)})
	}
	return l
}

// op is one of those that write, add, delete, fail, by a number.
func op(n int) api.Op {
	key := []string{"a", "b", "b.1", "c"}[n%4]
	return []api.Op{
		{Kind: api.Put, Key: key, A: num(n % 7)},
		{Kind: api.Add, Key: key, A: num(n % 5)},
		{Kind: api.Del, Key: key},
		{Kind: api.Cas, Key: key, A: num(n % 3), B: num(n)},
		{Kind: api.Cas, Key: key, B: text("t" + strconv.Itoa(n))},
		{Kind: api.Put, Key: key, A: text("some")},
	}[n/4%6]
}

// seen is what cells and a sequence come to, by hand.
func seen(c []api.Cell, l []api.Write) []api.Cell {
	m := map[string]api.Value{}
	for _, x := range c {
		m[x.Key] = x.Value
	}
	for _, w := range l {
		m[w.Op.Key], _ = deed.Do(w.Op, m[w.Op.Key])
	}
	var all []api.Cell
	for k, v := range m {
		if v.Kind != api.None {
			all = append(all, api.Cell{Key: k, Value: v})
		}
	}
	slices.SortFunc(all, func(a, b api.Cell) int { return strings.Compare(a.Key, b.Key) })
	return all
}

// sequence is that of three parts, by hand.
func sequence(known, tail, wait []api.Write) []api.Write {
	has := func(l []api.Write, id api.Id) bool {
		return slices.ContainsFunc(l, func(w api.Write) bool { return w.Id == id })
	}
	all := slices.Clone(known)
	for _, w := range tail {
		if !has(known, w.Id) {
			all = append(all, w)
		}
	}
	for _, w := range wait {
		if !has(known, w.Id) && !has(tail, w.Id) {
			all = append(all, w)
		}
	}
	return all
}

func made(t *testing.T, c []api.Cell) *sap.View {
	t.Helper()
	v, e := sap.New(c)
	if e != api.OK {
		t.Fatalf("New(%v): %d", c, e)
	}
	return v
}

// is looks at all that a view tells, of cells and a sequence by hand.
func is(t *testing.T, v *sap.View, c []api.Cell, l []api.Write) {
	t.Helper()
	want := seen(c, l)
	if got := v.Cells(); !slices.Equal(got, want) {
		t.Fatalf("Cells: %v, want %v", got, want)
	}
	if got := v.Sequence(); !slices.Equal(got, l) {
		t.Fatalf("Sequence: %v, want %v", stamp.Ids(got), stamp.Ids(l))
	}
	for _, key := range []string{"a", "b", "b.1", "c", "z", ""} {
		x := api.Value{}
		if i := slices.IndexFunc(want, func(y api.Cell) bool { return y.Key == key }); i >= 0 {
			x = want[i].Value
		}
		if got := v.At(key); got != x {
			t.Fatalf("At(%q): %v, want %v", key, got, x)
		}
	}
}

func some() []api.Cell {
	return []api.Cell{{Key: "a", Value: num(2)}, {Key: "b.1", Value: text("x")}, {Key: "y", Value: num(9)}}
}

func TestP16_1_Example(t *testing.T) {
	v := made(t, nil)
	a, b, c := api.Write{Id: api.Id{Dev: 1, Seq: 1}, Op: op(0)}, api.Write{Id: api.Id{Dev: 1, Seq: 2}, Op: op(1)}, api.Write{Id: api.Id{Dev: 1, Seq: 3}, Op: op(2)}
	for _, x := range []struct {
		l    []api.Write
		work int
	}{{[]api.Write{a}, 1}, {[]api.Write{a, b}, 2}, {[]api.Write{a, c}, 4}} {
		v.Tell(x.l, nil, nil)
		if v.Work() != x.work {
			t.Errorf("work %d, want %d", v.Work(), x.work)
		}
		is(t, v, nil, x.l)
	}
}

func TestP16_1_New(t *testing.T) {
	for _, c := range [][]api.Cell{nil, some(), {{Key: "a", Value: text("")}}, {{Key: strings.Repeat("k", 20), Value: text(strings.Repeat("t", 40))}}} {
		v := made(t, c)
		is(t, v, c, nil)
		if v.Work() != 0 {
			t.Errorf("work %d of a new one", v.Work())
		}
		v.Tell(nil, nil, nil)
		is(t, v, c, nil)
		if v.Work() != 0 {
			t.Errorf("work %d, told of nothing", v.Work())
		}
	}
	for _, c := range [][]api.Cell{
		{{Key: "b", Value: num(1)}, {Key: "a", Value: num(1)}}, {{Key: "a", Value: num(1)}, {Key: "a", Value: num(1)}}, {{Key: "A", Value: num(1)}}, {{Key: "", Value: num(1)}}, {{Key: strings.Repeat("k", 21), Value: num(1)}},
		{{Key: "a", Value: text(strings.Repeat("t", 41))}}, {{Key: "a", Value: api.Value{Kind: 3}}}, {{Key: "a", Value: api.Value{Kind: api.Int, Text: "x"}}}, {{Key: "a"}}, {{Key: "a", Value: num(1)}, {Key: "b"}},
	} {
		if v, e := sap.New(c); e != api.ErrForm || v != nil {
			t.Errorf("New(%v): %d", c, e)
		}
	}
}

// tellings are of three parts each, told one behind the other, with the work of each.
var tellings = []struct {
	known, tail, wait string
	sequence          string
	work              int
}{
	{"", "", "", "", 0},
	{"", "", "1/1 1/2", "1/1 1/2", 2},
	{"", "", "1/1 1/2", "1/1 1/2", 0},
	{"", "1/1", "1/1 1/2", "1/1 1/2", 0},        // told, as it was seen
	{"1/1", "1/2", "1/1 1/2", "1/1 1/2", 0},     // known
	{"1/1 1/2", "1/2", "", "1/1 1/2", 0},        // in two parts
	{"1/1 1/2", "1/1 1/2", "1/1", "1/1 1/2", 0}, // in all three
	{"1/1 1/2", "2/1", "", "1/1 1/2 2/1", 1},    // it grows
	{"1/1 1/2 3/1", "2/1", "", "1/1 1/2 3/1 2/1", 3},
	{"1/1", "", "", "1/1", 3},         // it shrinks
	{"2/1 1/1", "", "", "2/1 1/1", 3}, // no beginning in common
	{"2/1 1/1", "3/1 3/2", "4/1 3/2 1/1 4/2", "2/1 1/1 3/1 3/2 4/1 4/2", 4},
	{"2/1 1/1 3/1", "3/2", "4/1 4/2", "2/1 1/1 3/1 3/2 4/1 4/2", 0},
	{"2/1 1/1 3/1 4/1", "3/2", "4/2", "2/1 1/1 3/1 4/1 3/2 4/2", 6},
	{"2/1", "5/1 5/1", "6/1 6/1", "2/1 5/1 5/1 6/1 6/1", 9}, // twice in one part
	{"2/1 2/1", "5/1", "", "2/1 2/1 5/1", 6},
	{"", "2/1", "2/1 7/1", "2/1 7/1", 3},
	{"", "", "", "", 2},
}

func TestP16_1_Tell(t *testing.T) {
	for _, c := range [][]api.Cell{nil, some()} {
		v := made(t, c)
		work := 0
		for i, x := range tellings {
			v.Tell(list(x.known), list(x.tail), list(x.wait))
			is(t, v, c, list(x.sequence))
			if work += x.work; v.Work() != work {
				t.Errorf("telling %d: work %d, want %d", i, v.Work(), work)
			}
		}
	}
}

func TestP16_1_Sequence(t *testing.T) {
	for i, x := range tellings {
		if got := sap.Sequence(list(x.known), list(x.tail), list(x.wait)); !slices.Equal(got, list(x.sequence)) {
			t.Errorf("telling %d: %v, want %s", i, stamp.Ids(got), x.sequence)
		}
	}
}

// A write of an id that stands in two parts with two operations is the earlier part's; where another one comes in its place, it is undone.
func TestP16_1_OneIdTwoOperations(t *testing.T) {
	a, b := list("1/1"), list("1/1")
	b[0].Op = api.Op{Kind: api.Put, Key: "c", A: num(77)}
	v := made(t, some())
	v.Tell(nil, a, b)
	is(t, v, some(), a)
	v.Tell(b, a, nil)
	is(t, v, some(), b)
	if v.Work() != 3 {
		t.Errorf("work %d", v.Work())
	}
}

// chance is a part by chance: of few ids, so that they meet.
func chance(r *rand.Rand, single bool) []api.Write {
	var l []api.Write
	for range r.Intn(8) {
		w := list(strconv.Itoa(1+r.Intn(3)) + "/" + strconv.Itoa(1+r.Intn(6)))[0]
		if !single || stamp.Find(l, w.Id) < 0 {
			l = append(l, w)
		}
	}
	return l
}

// P16.2: behind any Tells it is as a new view that is told of the last alone; the work is what the longest beginning asks for.
func TestP16_2_Straight(t *testing.T) {
	r := rand.New(rand.NewSource(16))
	for range 200 {
		c := [][]api.Cell{nil, some()}[r.Intn(2)]
		v := made(t, c)
		var had []api.Write
		work := 0
		parts := [3][]api.Write{}
		for range 30 {
			switch i := r.Intn(3); r.Intn(4) {
			case 0: // one part grows
				parts[i] = append(slices.Clone(parts[i]), chance(r, false)...)
			case 1: // or shrinks
				parts[i] = parts[i][:r.Intn(len(parts[i])+1)]
			case 2: // or some of what waits is known
				if n := r.Intn(len(parts[2]) + 1); n > 0 {
					parts[0], parts[2] = slices.Concat(parts[0], parts[2][:n]), parts[2][n:]
				}
			default:
				parts[i] = chance(r, false)
			}
			v.Tell(parts[0], parts[1], parts[2])
			now := sequence(parts[0], parts[1], parts[2])
			is(t, v, c, now)
			fresh := made(t, c)
			fresh.Tell(parts[0], parts[1], parts[2])
			is(t, fresh, c, now)
			same := 0
			for same < min(len(had), len(now)) && had[same] == now[same] {
				same++
			}
			if work += len(had) + len(now) - 2*same; v.Work() != work {
				t.Fatalf("work %d, want %d", v.Work(), work)
			}
			had = now
		}
	}
}

// P16.3: single, if each part is; each part's writes stand in that part's order.
func TestP16_3_Single(t *testing.T) {
	r := rand.New(rand.NewSource(163))
	for range 2000 {
		known, tail, wait := chance(r, true), chance(r, true), chance(r, true)
		got := sap.Sequence(known, tail, wait)
		if !stamp.Single(got) || !slices.Equal(got, sequence(known, tail, wait)) {
			t.Fatalf("%v of %v, %v, %v", stamp.Ids(got), stamp.Ids(known), stamp.Ids(tail), stamp.Ids(wait))
		}
		rest := got
		for i, part := range [][]api.Write{known, tail, wait} {
			at := 0
			for len(rest) > 0 && at < len(part) {
				if part[at] == rest[0] {
					rest = rest[1:]
				}
				at++
			}
			if i == 2 && len(rest) > 0 {
				t.Fatalf("%v of %v, %v, %v", stamp.Ids(got), stamp.Ids(known), stamp.Ids(tail), stamp.Ids(wait))
			}
		}
		for _, w := range slices.Concat(known, tail, wait) {
			if stamp.Find(got, w.Id) < 0 {
				t.Fatalf("%v is missing", w.Id)
			}
		}
	}
}
