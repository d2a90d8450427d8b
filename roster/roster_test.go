package roster_test

import (
	"math"
	"math/rand"
	"slices"
	"strconv"
	"strings"
	"testing"

	"spinney/api"
	"spinney/roll"
	"spinney/roster"
	"spinney/stamp"
)

const least, greatest = math.MinInt, math.MaxInt

// id is that of a text, of numbers that can't be, too.
func id(s string) api.Id {
	dev, seq, _ := strings.Cut(s, "/")
	d, _ := strconv.Atoi(dev)
	n, _ := strconv.Atoi(seq)
	return api.Id{Dev: d, Seq: n}
}

// list is one of writes of ids, with a blank between; each of them is another operation.
func list(s string) []api.Write {
	var l []api.Write
	for i, f := range strings.Fields(s) {
		o := []api.Op{{Kind: api.Put, Key: "a.1", A: api.Value{Kind: api.Text, Text: "one"}}, {Kind: api.Del, Key: "b"}, {Kind: api.Cas, Key: "c", A: api.Value{Kind: api.Text, Text: "old"}, B: api.Value{Kind: api.Int, Num: i}}}[i%3]
		l = append(l, api.Write{Id: id(f), Op: o})
	}
	return l
}

// ids tells a list's.
func ids(l []api.Write) string {
	var all []string
	for _, w := range l {
		all = append(all, strconv.Itoa(w.Id.Dev)+"/"+strconv.Itoa(w.Id.Seq))
	}
	return strings.Join(all, " ")
}

// lasts are those of ids, one a device.
func lasts(s string) roll.Lasts {
	var l roll.Lasts
	for _, f := range strings.Fields(s) {
		l[id(f).Dev] = id(f).Seq
	}
	return l
}

// full: the greatest there may be.
func full() roll.Lasts {
	var l roll.Lasts
	for dev := 1; dev < api.MaxNodes; dev++ {
		l[dev] = api.MaxSeq
	}
	return l
}

// someLasts: good ones, by chance.
func someLasts(r *rand.Rand) roll.Lasts {
	var l roll.Lasts
	for dev := 1; dev < api.MaxNodes; dev++ {
		l[dev] = []int{0, 1, 20, api.MaxSeq, r.Intn(api.MaxSeq + 1)}[r.Intn(5)]
	}
	return l
}

// someWrites: so many, of any ids that are good.
func someWrites(r *rand.Rand, n int) []api.Write {
	var l []string
	for range n {
		l = append(l, strconv.Itoa(1+r.Intn(api.MaxNodes-1))+"/"+strconv.Itoa(1+r.Intn(api.MaxSeq)))
	}
	return list(strings.Join(l, " "))
}

// The chapter's example.
func TestP13_1_Example(t *testing.T) {
	l := lasts("1/4")
	for s, want := range map[string]api.Errno{"1/4": api.ErrTwice, "1/5": api.OK, "1/6": api.ErrGap} {
		if e := roster.Ask(l, id(s)); e != want {
			t.Errorf("Ask of %s: %d, want %d", s, e, want)
		}
	}
	if n := roster.Next(l, 1); n != 5 {
		t.Errorf("Next: %d", n)
	}
}

// Each last, beside each id.
func TestP13_1_Ask(t *testing.T) {
	for dev := 1; dev < 12; dev++ {
		for known := range 41 {
			var l roll.Lasts
			for other := 1; other < 12; other++ { // those of others are nothing to it
				l[other] = (known + 7*other) % 41
			}
			l[dev] = known
			for seq := 1; seq <= 40; seq++ {
				want := api.OK
				if seq <= known {
					want = api.ErrTwice
				} else if seq-known >= 2 {
					want = api.ErrGap
				}
				if e := roster.Ask(l, api.Id{Dev: dev, Seq: seq}); e != want {
					t.Errorf("Ask of %d/%d, with %d known: %d, want %d", dev, seq, known, e, want)
				}
			}
			if n := roster.Next(l, dev); n != known+1 {
				t.Errorf("Next of %d, with %d known: %d", dev, known, n)
			}
		}
	}
}

// What is next is what Next tells, as long as there is one.
func TestP13_1_AskOfNext(t *testing.T) {
	r := rand.New(rand.NewSource(13))
	for range 300 {
		l := someLasts(r)
		for dev := 1; dev < 12; dev++ {
			n := roster.Next(l, dev)
			if n != l[dev]+1 {
				t.Errorf("Next of %d, %v: %d", dev, l, n)
			}
			if n <= api.MaxSeq && roster.Ask(l, api.Id{Dev: dev, Seq: n}) != api.OK || roster.Ask(l, api.Id{Dev: dev, Seq: n - 1}) != api.ErrTwice && n > 1 || n < api.MaxSeq && roster.Ask(l, api.Id{Dev: dev, Seq: n + 1}) != api.ErrGap {
				t.Errorf("%v: device %d's next one isn't %d", l, dev, n)
			}
		}
	}
	if roster.Next(full(), 1) != 41 || roster.Next(full(), 11) != 41 || roster.Next(roll.Lasts{}, 1) != 1 || roster.Next(roll.Lasts{}, 11) != 1 {
		t.Error("Next at the edges")
	}
}

func TestP13_1_Of(t *testing.T) {
	for _, c := range []struct{ l, writes, want string }{
		{"", "", ""}, {"3/5", "", "3/5"}, {"", "1/1", "1/1"}, {"", "1/40 11/1", "1/40 11/1"}, {"", "11/40", "11/40"}, {"", "1/1 1/2 1/3", "1/3"}, {"", "1/3 1/1 1/2", "1/3"}, {"", "1/2 1/2", "1/2"}, {"", "1/5", "1/5"},
		{"1/4", "1/3", "1/4"}, {"1/4", "1/4", "1/4"}, {"1/4", "1/5", "1/5"}, {"1/4", "1/9 1/2", "1/9"}, {"1/4 2/7", "2/1 3/2 1/6 2/8 3/1", "1/6 2/8 3/2"}, {"1/40", "1/1 1/40", "1/40"}, {"5/1 6/2", "7/3 4/4", "4/4 5/1 6/2 7/3"},
	} {
		l := lasts(c.l)
		if got := roster.Of(l, list(c.writes)); got != lasts(c.want) || l != lasts(c.l) {
			t.Errorf("Of %s and %s: %v, want %s", c.l, c.writes, got, c.want)
		}
	}
	if roster.Of(full(), someWrites(rand.New(rand.NewSource(1)), 500)) != full() {
		t.Error("Of the greatest lasts that there may be")
	}
}

// handOf is Of by hand: of each device the greatest Seq that is told anywhere.
func handOf(l roll.Lasts, writes []api.Write) roll.Lasts {
	for dev := range l {
		for _, w := range writes {
			if w.Id.Dev == dev && w.Id.Seq > l[dev] {
				l[dev] = w.Id.Seq
			}
		}
	}
	return l
}

func TestP13_1_OfInAnyOrder(t *testing.T) {
	r := rand.New(rand.NewSource(131))
	for range 500 {
		l, w := someLasts(r), someWrites(r, r.Intn(60))
		want := handOf(l, w)
		for range 4 {
			r.Shuffle(len(w), func(i, j int) { w[i], w[j] = w[j], w[i] })
			if got := roster.Of(l, w); got != want {
				t.Fatalf("Of %v and %s: %v, want %v", l, ids(w), got, want)
			}
			// In two steps it is the same.
			n := r.Intn(len(w) + 1)
			if got := roster.Of(roster.Of(l, w[:n]), w[n:]); got != want {
				t.Fatalf("Of %v and %s in two steps: %v, want %v", l, ids(w), got, want)
			}
		}
	}
}

func TestP13_1_Join(t *testing.T) {
	for _, c := range []struct{ a, b, want string }{
		{"", "", ""}, {"1/4", "", "1/4"}, {"1/4", "1/4", "1/4"}, {"1/4", "1/5", "1/5"}, {"1/4", "2/5", "1/4 2/5"}, {"1/4 2/5 11/40", "1/5 2/4 3/1", "1/5 2/5 3/1 11/40"}, {"1/1 11/1", "1/40 11/40", "1/40 11/40"},
	} {
		for _, got := range []roll.Lasts{roster.Join(lasts(c.a), lasts(c.b)), roster.Join(lasts(c.b), lasts(c.a))} {
			if got != lasts(c.want) {
				t.Errorf("Join of %s and %s: %v, want %s", c.a, c.b, got, c.want)
			}
		}
	}
	r := rand.New(rand.NewSource(132))
	for range 1000 {
		a, b, c := someLasts(r), someLasts(r), someLasts(r)
		j := roster.Join(a, b)
		for dev := range j {
			if j[dev] != max(a[dev], b[dev]) {
				t.Fatalf("Join of %v and %v: %v", a, b, j)
			}
		}
		if j != roster.Join(b, a) || roster.Join(a, a) != a || roster.Join(a, roll.Lasts{}) != a || roster.Join(full(), a) != full() || roster.Join(j, c) != roster.Join(a, roster.Join(b, c)) {
			t.Fatalf("Join of %v, %v and %v in another order, or of the same", a, b, c)
		}
	}
}

func TestP13_1_Covers(t *testing.T) {
	for _, c := range []struct {
		a, b string
		want bool
	}{
		{"", "", true}, {"1/1", "", true}, {"", "1/1", false}, {"1/4", "1/4", true}, {"1/4", "1/5", false}, {"1/5", "1/4", true}, {"1/5 2/3", "1/4 2/4", false}, {"1/40 2/40 3/40", "11/1", false}, {"1/40 11/1", "11/1", true}, {"1/3 2/3", "1/3 2/3 3/1", false},
	} {
		if got := roster.Covers(lasts(c.a), lasts(c.b)); got != c.want {
			t.Errorf("Covers of %s and %s: %v", c.a, c.b, got)
		}
	}
	r := rand.New(rand.NewSource(133))
	for range 300 {
		a := someLasts(r)
		if !roster.Covers(a, a) || !roster.Covers(full(), a) || !roster.Covers(a, roll.Lasts{}) {
			t.Fatalf("%v covers not", a)
		}
		for dev := 1; dev < 12; dev++ { // below at just one device, above at all others
			b, c := roll.Lasts{}, a
			b[dev] = a[dev] + 1
			c[dev]++
			if a[dev] < 40 && (roster.Covers(a, b) || roster.Covers(a, c) || !roster.Covers(c, a)) {
				t.Fatalf("%v, that is below at device %d", a, dev)
			}
		}
		b := someLasts(r)
		want := true
		for dev := range a {
			want = want && a[dev] >= b[dev]
		}
		if roster.Covers(a, b) != want || !roster.Covers(roster.Join(a, b), a) || !roster.Covers(roster.Join(a, b), b) {
			t.Fatalf("Covers of %v and %v: %v", a, b, !want)
		}
	}
}

func TestP13_1_Left(t *testing.T) {
	for _, c := range []struct{ l, writes, want string }{
		{"", "", ""}, {"1/4", "", ""}, {"", "1/1 2/5 1/1", "1/1 2/5 1/1"}, {"1/4", "1/1 1/2 1/3 1/4", ""}, {"1/4", "1/5 1/6", "1/5 1/6"}, {"1/4", "1/5 1/4 1/6 1/3 1/7", "1/5 1/6 1/7"}, {"1/4", "1/4 1/5", "1/5"}, {"1/4", "1/9 1/5 1/4 1/9", "1/9 1/5 1/9"},
		{"1/4", "2/1 1/1 3/1 1/5", "2/1 3/1 1/5"}, {"1/4 2/2 11/40", "11/40 2/3 1/4 2/2 11/1 3/1 2/1", "2/3 3/1"}, {"1/40 2/40", "1/1 1/40 2/40 3/40", "3/40"}, {"11/1", "11/2 11/1 11/40", "11/2 11/40"},
	} {
		w := list(c.writes)
		got := roster.Left(lasts(c.l), w)
		if ids(got) != c.want {
			t.Errorf("Left of %s beside %s: %s, want %s", c.writes, c.l, ids(got), c.want)
		}
		for _, x := range got { // whole writes
			if !slices.Contains(w, x) {
				t.Errorf("%v wasn't told", x)
			}
		}
	}
	if len(roster.Left(full(), someWrites(rand.New(rand.NewSource(2)), 500))) != 0 {
		t.Error("Left beside the greatest lasts that there may be")
	}
}

func TestP13_1_LeftByChance(t *testing.T) {
	r := rand.New(rand.NewSource(134))
	for range 500 {
		l, w := someLasts(r), someWrites(r, r.Intn(60))
		want := slices.DeleteFunc(slices.Clone(w), func(x api.Write) bool { return x.Id.Seq <= l[x.Id.Dev] })
		if got := roster.Left(l, w); !slices.Equal(got, want) {
			t.Fatalf("Left of %s beside %v: %s, want %s", ids(w), l, ids(got), ids(want))
		}
		// What is left isn't old; all of it is, beside its own lasts.
		if !slices.Equal(roster.Left(l, roster.Left(l, w)), want) || len(roster.Left(roster.Of(l, w), w)) != 0 {
			t.Fatalf("Left of %s beside %v, again", ids(w), l)
		}
	}
}

// P13.2: writes that are asked one after the other, each as the next one, are tight; their lasts are the same in any order.
func TestP13_2_EachAsTheNextOne(t *testing.T) {
	r := rand.New(rand.NewSource(135))
	for range 300 {
		begin := someLasts(r)
		l := begin
		var taken []api.Write
		for _, w := range someWrites(r, 400) {
			if r.Intn(2) == 0 {
				w.Id.Seq = min(roster.Next(l, w.Id.Dev), api.MaxSeq)
			}
			e := roster.Ask(l, w.Id)
			if (e == api.OK) != (w.Id.Seq == l[w.Id.Dev]+1) {
				t.Fatalf("Ask of %v beside %v: %d", w.Id, l, e)
			}
			if e == api.OK {
				taken = append(taken, w)
				l = roster.Of(l, []api.Write{w})
			}
		}
		if !stamp.Tight(taken) || !stamp.Single(taken) {
			t.Fatalf("%s aren't tight", ids(taken))
		}
		for range 5 {
			r.Shuffle(len(taken), func(i, j int) { taken[i], taken[j] = taken[j], taken[i] })
			if roster.Of(begin, taken) != l {
				t.Fatalf("the lasts of %s: %v, want %v", ids(taken), roster.Of(begin, taken), l)
			}
		}
		// Of each device as many as its last one has risen.
		n := 0
		for dev := range l {
			n += l[dev] - begin[dev]
		}
		if n != len(taken) {
			t.Fatalf("%d writes, and lasts that rose by %d", len(taken), n)
		}
	}
}

// P13.2, in small: all orders of a few tight writes.
func TestP13_2_AllOrders(t *testing.T) {
	w := list("1/1 2/1 1/2 1/3 11/1")
	want := lasts("1/3 2/1 11/1")
	var all func(n int)
	count := 0
	all = func(n int) {
		if n == len(w) {
			count++
			if got := roster.Of(roll.Lasts{}, w); got != want {
				t.Errorf("the lasts of %s: %v", ids(w), got)
			}
			return
		}
		for i := n; i < len(w); i++ {
			w[n], w[i] = w[i], w[n]
			all(n + 1)
			w[n], w[i] = w[i], w[n]
		}
	}
	all(0)
	if count != 120 {
		t.Errorf("%d orders", count)
	}
}
