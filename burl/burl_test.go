package burl_test

import (
	"encoding/binary"
	"hash/fnv"
	"math"
	"math/rand"
	"slices"
	"strconv"
	"strings"
	"testing"

	"spinney/api"
	"spinney/burl"
	"spinney/pack"
)

const least, greatest = math.MinInt, math.MaxInt

func num(n int) api.Value     { return api.Value{Kind: api.Int, Num: n} }
func text(s string) api.Value { return api.Value{Kind: api.Text, Text: s} }

// digest is that of bytes, by the library.
func digest(b []byte) uint64 {
	h := fnv.New64a()
	h.Write(b)
	return h.Sum64()
}

// hand is a burl by hand.
func hand(l []api.Cell) burl.Burl {
	var x burl.Burl
	for _, c := range l {
		x.Leaves[digest([]byte(c.Key))%16] += digest(pack.Value(pack.Text(nil, c.Key), c.Value))
	}
	var b []byte
	for _, n := range x.Leaves {
		b = binary.BigEndian.AppendUint64(b, n)
	}
	x.Root = digest(b)
	return x
}

// cells are those of keys, rising, with a value of each kind.
func cells(n int) []api.Cell {
	var l []api.Cell
	for i := range n {
		v := num(i - 5)
		if i%3 == 1 {
			v = text("t" + strconv.Itoa(i))
		}
		l = append(l, api.Cell{Key: "k" + strings.Repeat("0", 4-len(strconv.Itoa(i))) + strconv.Itoa(i), Value: v})
	}
	return l
}

func of(t *testing.T, l []api.Cell) burl.Burl {
	t.Helper()
	x, e := burl.Of(l)
	if e != api.OK || x != hand(l) {
		t.Fatalf("Of %v: %v, %d", l, x, e)
	}
	return x
}

func TestP28_1_Example(t *testing.T) {
	if burl.Digest(nil) != 0xCBF29CE484222325 || burl.Digest([]byte{0x61}) != 0xAF63DC4C8601EC8C {
		t.Errorf("%x, %x", burl.Digest(nil), burl.Digest([]byte{0x61}))
	}
}

func TestP28_1_Digest(t *testing.T) {
	r := rand.New(rand.NewSource(28))
	for n := range 300 {
		b := make([]byte, n)
		r.Read(b)
		if burl.Digest(b) != digest(b) {
			t.Errorf("Digest of %v: %x", b, burl.Digest(b))
		}
	}
}

func TestP28_1_Leaf(t *testing.T) {
	had := map[int]int{}
	keys := []string{"", "a", strings.Repeat("k", 20), "\xff\x00", strings.Repeat("x", 1000)}
	for _, c := range cells(500) {
		keys = append(keys, c.Key)
	}
	for _, key := range keys {
		n := burl.Leaf(key)
		if n != int(digest([]byte(key))%16) {
			t.Errorf("Leaf of %q: %d", key, n)
		}
		had[n]++
	}
	if len(had) != 16 {
		t.Errorf("leaves: %v", had)
	}
}

func TestP28_1_Of(t *testing.T) {
	for _, n := range []int{0, 1, 2, 16, 300} {
		of(t, cells(n))
	}
	of(t, []api.Cell{{Key: strings.Repeat("k", 20), Value: text(strings.Repeat("t", 40))}, {Key: strings.Repeat("l", 20), Value: num(least)}})
	for leaf := range 16 { // cells of one leaf alone
		l := burl.At(cells(300), leaf)
		x := of(t, l)
		for n, d := range x.Leaves {
			if (d == 0) != (n != leaf) || len(l) == 0 {
				t.Errorf("leaf %d: %x", n, d)
			}
		}
	}
}

// bad are cells that aren't good.
func bad() [][]api.Cell {
	return [][]api.Cell{
		{{Key: "b", Value: num(1)}, {Key: "a", Value: num(1)}}, {{Key: "a", Value: num(1)}, {Key: "a", Value: num(1)}}, {{Key: "A", Value: num(1)}}, {{Key: "", Value: num(1)}}, {{Key: strings.Repeat("k", 21), Value: num(1)}},
		{{Key: "a", Value: text(strings.Repeat("t", 41))}}, {{Key: "a", Value: api.Value{Kind: 3}}}, {{Key: "a", Value: api.Value{Kind: api.Int, Text: "x"}}}, {{Key: "a"}}, {{Key: "a", Value: num(1)}, {Key: "b"}},
	}
}

func TestP28_1_NotGood(t *testing.T) {
	for _, l := range bad() {
		if x, e := burl.Of(l); e != api.ErrForm || x != (burl.Burl{}) {
			t.Errorf("Of %v: %d", l, e)
		}
		for _, other := range [][]api.Cell{nil, cells(3), l} {
			if k, e := burl.Differ(l, other); e != api.ErrForm || k != nil {
				t.Errorf("Differ of %v: %d", l, e)
			}
			if k, e := burl.Differ(other, l); e != api.ErrForm || k != nil {
				t.Errorf("Differ of %v: %d", l, e)
			}
		}
	}
}

func TestP28_1_Part(t *testing.T) {
	a, b := burl.Burl{Root: 1}, burl.Burl{Root: 2}
	for i := range 16 {
		a.Leaves[i] = uint64(i)
		b.Leaves[i] = uint64(i / 3 * 3)
	}
	if got := burl.Part(a, b); !slices.Equal(got, []int{1, 2, 4, 5, 7, 8, 10, 11, 13, 14}) {
		t.Errorf("Part: %v", got)
	}
	b.Root = 1
	if got := burl.Part(a, b); len(got) != 0 { // the same roots
		t.Errorf("Part: %v", got)
	}
	b = a
	b.Root = 2
	if got := burl.Part(a, b); len(got) != 0 { // the same leaves
		t.Errorf("Part: %v", got)
	}
	b.Leaves[0], b.Leaves[15] = 99, 99
	if got := burl.Part(b, a); !slices.Equal(got, []int{0, 15}) {
		t.Errorf("Part: %v", got)
	}
}

func TestP28_1_At(t *testing.T) {
	l := cells(300)
	count := 0
	for leaf := range 16 {
		want := slices.DeleteFunc(slices.Clone(l), func(c api.Cell) bool { return int(digest([]byte(c.Key))%16) != leaf })
		got := burl.At(l, leaf)
		if !slices.Equal(got, want) {
			t.Errorf("At(%d): %v", leaf, got)
		}
		count += len(got)
	}
	if count != 300 {
		t.Errorf("%d cells", count)
	}
	for _, leaf := range []int{16, 17, -1, 32, least, greatest} {
		if got := burl.At(l, leaf); len(got) != 0 {
			t.Errorf("At(%d): %v", leaf, got)
		}
	}
	// Of a list in any order, in its order.
	slices.Reverse(l)
	if got := burl.At(l, burl.Leaf("k0000")); got[len(got)-1].Key != "k0000" {
		t.Errorf("At: %v", got)
	}
}

func TestP28_1_Change(t *testing.T) {
	l := cells(50)
	for _, c := range []struct {
		key      string
		was, now api.Value
	}{
		{"a", api.Value{}, num(5)}, {"k0007", l[7].Value, text("")}, {"k0007", l[7].Value, api.Value{}}, {"k0008", l[8].Value, l[8].Value}, {"zz", api.Value{}, api.Value{}}, {"k0000", l[0].Value, num(least)}, {strings.Repeat("z", 20), api.Value{}, text(strings.Repeat("t", 40))},
	} {
		m := slices.DeleteFunc(slices.Clone(l), func(x api.Cell) bool { return x.Key == c.key })
		if c.now.Kind != api.None {
			m = append(m, api.Cell{Key: c.key, Value: c.now})
		}
		slices.SortFunc(m, func(a, b api.Cell) int { return strings.Compare(a.Key, b.Key) })
		x := of(t, l)
		y := burl.Change(x, c.key, c.was, c.now)
		if y != of(t, m) {
			t.Errorf("Change at %s to %v", c.key, c.now)
		}
		if burl.Change(y, c.key, c.now, c.was) != x {
			t.Errorf("Change at %s back", c.key)
		}
	}
}

func TestP28_1_Differ(t *testing.T) {
	l := cells(100)
	differ := func(a, b []api.Cell, want ...string) {
		t.Helper()
		for _, x := range [][2][]api.Cell{{a, b}, {b, a}} {
			if got, e := burl.Differ(x[0], x[1]); e != api.OK || !slices.Equal(got, want) {
				t.Errorf("Differ: %q, %d, want %q", got, e, want)
			}
		}
	}
	differ(nil, nil)
	differ(l, l)
	var keys []string
	for _, c := range l {
		keys = append(keys, c.Key)
	}
	differ(l, nil, keys...) // in all: one has nothing
	m := slices.Clone(l)
	m[40].Value = num(77)
	differ(l, m, "k0040") // in one
	m = slices.Delete(m, 10, 11)
	m = append(m, api.Cell{Key: "zz", Value: num(1)})
	differ(l, m, "k0010", "k0040", "zz")
	for i := range m {
		m[i].Value = text("other")
	}
	differ(l, m, append(keys, "zz")...)
}

// P28.2, P28.3: states by chance, changed cell by cell, in any order, and back.
func TestP28_3_CellByCell(t *testing.T) {
	r := rand.New(rand.NewSource(283))
	for range 100 {
		state := map[string]api.Value{}
		list := func() []api.Cell {
			var l []api.Cell
			for k, v := range state {
				l = append(l, api.Cell{Key: k, Value: v})
			}
			slices.SortFunc(l, func(a, b api.Cell) int { return strings.Compare(a.Key, b.Key) })
			return l
		}
		x, first := of(t, nil), list()
		for range 60 {
			key := "k" + strconv.Itoa(r.Intn(40))
			now := []api.Value{{}, num(r.Intn(3)), text("t")}[r.Intn(3)]
			x = burl.Change(x, key, state[key], now)
			state[key] = now
			if now.Kind == api.None {
				delete(state, key)
			}
			if r.Intn(9) == 0 && x != of(t, list()) {
				t.Fatal("changed cell by cell it is another one")
			}
		}
		last := list()
		if x != of(t, last) {
			t.Fatal("changed cell by cell it is another one")
		}
		back := slices.Clone(last)
		r.Shuffle(len(back), func(i, j int) { back[i], back[j] = back[j], back[i] })
		for _, c := range back {
			x = burl.Change(x, c.Key, c.Value, api.Value{})
		}
		if x != of(t, first) {
			t.Fatal("changed back it is another one")
		}
	}
}

// P28.2: of the same cells the burls part nowhere; cells of a leaf at which they part aren't the same; what Differ tells stands unlike.
func TestP28_2_PartAndDiffer(t *testing.T) {
	r := rand.New(rand.NewSource(282))
	for range 300 {
		a := cells(r.Intn(60))
		b := slices.Clone(a)
		for range r.Intn(6) {
			if n := len(b); n > 0 {
				i := r.Intn(n)
				if r.Intn(2) == 0 {
					b[i].Value = num(r.Intn(9))
				} else {
					b = slices.Delete(b, i, i+1)
				}
			}
		}
		x, y := of(t, a), of(t, b)
		parts := burl.Part(x, y)
		if len(burl.Part(x, x)) != 0 || !slices.IsSorted(parts) || slices.Equal(a, b) && (x != y || len(parts) != 0) {
			t.Fatalf("Part: %v", parts)
		}
		for leaf := range 16 {
			if unlike := !slices.Equal(burl.At(a, leaf), burl.At(b, leaf)); unlike != slices.Contains(parts, leaf) {
				t.Fatalf("leaf %d: parts %v", leaf, parts)
			}
		}
		var want []string
		for _, c := range a {
			if !slices.Contains(b, c) {
				want = append(want, c.Key)
			}
		}
		if got, e := burl.Differ(a, b); e != api.OK || !slices.Equal(got, want) {
			t.Fatalf("Differ: %q, want %q", got, want)
		}
	}
}
