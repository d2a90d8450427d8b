package pack_test

import (
	"bytes"
	"math"
	"slices"
	"strings"
	"testing"

	"spinney/api"
	"spinney/pack"
)

const least, greatest = math.MinInt, math.MaxInt

func num(n int) api.Value     { return api.Value{Kind: api.Int, Num: n} }
func text(s string) api.Value { return api.Value{Kind: api.Text, Text: s} }

func sized(n int) string { return strings.Repeat("z", n) }

// of: bytes out of numbers, and of texts.
func of(parts ...any) []byte {
	var b []byte
	for _, p := range parts {
		switch x := p.(type) {
		case int:
			b = append(b, byte(x))
		case string:
			b = append(b, x...)
		case []byte:
			b = append(b, x...)
		}
	}
	return b
}

// same tells whether two lists of writes are; a nil one and an empty one are.
func same(a, b []api.Write) bool { return slices.Equal(a, b) }

// A way to put a thing and to take it again, told by what is the same for each kind of thing.
type way struct {
	name string
	put  func(b []byte) []byte                // the thing behind b
	take func(r *pack.Reader) (is, none bool) // whether the thing was taken, and whether the zero one was
}

// numbers: all whose bytes begin to be more, with those beside them.
func numbers() []uint64 {
	l := []uint64{0, 1, 2, 3, 7, 8, 9, 44, 127, 128, 254, 300, math.MaxInt, math.MaxInt + 1, math.MaxUint64}
	for size := 1; size <= 7; size++ {
		n := uint64(1) << (8 * size)
		l = append(l, n-2, n-1, n, n+1, n<<7, n<<7-1)
	}
	return l
}

func ints() []int {
	l := []int{0, 1, -1, 2, -2, 63, 64, -64, -65, 127, 128, -127, -128, -129, 255, 256, -256, -257, greatest, greatest - 1, least, least + 1}
	for i := range 62 {
		l = append(l, 1<<i+5, -1<<i-5)
	}
	return l
}

func texts() []string {
	l := []string{"", "a", "b", "ab", "ba", "abc", "\x00", "\x00\x00", "\x01", "\xff", "é", "\xf0\x9f", "0", "1 2", sized(8), sized(9), sized(api.MaxKey), sized(api.MaxText), sized(254), sized(255), sized(256), sized(257), sized(65536), strings.Repeat("\xff", 300)}
	return append(l, string(of(1, 2, 97, 98)), string(of(0, 0, 0)))
}

func values() []api.Value {
	l := []api.Value{{}}
	for _, n := range ints() {
		l = append(l, num(n))
	}
	for _, s := range texts() {
		if len(s) <= api.MaxText {
			l = append(l, text(s))
		}
	}
	return append(l, text(sized(api.MaxText-1)), text(strings.Repeat("\x00", api.MaxText)), text(strings.Repeat("\xff", api.MaxText)))
}

// writes: good ones, of each kind, at the limits.
func writes() []api.Write {
	var l []api.Write
	all := values()
	for i, v := range all {
		key := []string{"a", "-", ".", "0", "n.1", sized(api.MaxKey - 1), sized(api.MaxKey)}[i%7]
		id := api.Id{Dev: 1 + i%(api.MaxNodes-1), Seq: 1 + i*7%api.MaxSeq}
		l = append(l, api.Write{Id: id, Op: api.Op{Kind: api.Del, Key: key}}, api.Write{Id: id, Op: api.Op{Kind: api.Cas, Key: key, A: v, B: all[i*5%len(all)]}})
		if v.Kind != api.None {
			l = append(l, api.Write{Id: id, Op: api.Op{Kind: api.Put, Key: key, A: v}})
		}
		if v.Kind == api.Int {
			l = append(l, api.Write{Id: id, Op: api.Op{Kind: api.Add, Key: key, A: v}})
		}
	}
	for _, id := range []api.Id{{Dev: 1, Seq: 1}, {Dev: 1, Seq: api.MaxSeq}, {Dev: api.MaxNodes - 1, Seq: 1}, {Dev: api.MaxNodes - 1, Seq: api.MaxSeq}} {
		l = append(l, api.Write{Id: id, Op: api.Op{Kind: api.Cas, Key: "k"}}, api.Write{Id: id, Op: api.Op{Kind: api.Cas, Key: "k", A: num(least), B: text("")}})
	}
	return l
}

// lists: of writes.
func lists() [][]api.Write {
	l := writes()
	return [][]api.Write{nil, l[:1], l[1:2], l[:2], {l[1], l[0]}, {l[0], l[0]}, l[:3], l[5:40], l[:], slices.Concat(l, l, l)}
}

// ways: of all samples, those of one kind of thing together.
func ways() map[string][]way {
	m := map[string][]way{}
	add := func(kind string, put func(b []byte) []byte, take func(r *pack.Reader) (bool, bool)) {
		m[kind] = append(m[kind], way{kind, put, take})
	}
	for _, n := range numbers() {
		add("Number", func(b []byte) []byte { return pack.Number(b, n) }, func(r *pack.Reader) (bool, bool) {
			x := r.Number(math.MaxUint64)
			return x == n, x == 0
		})
	}
	for _, n := range ints() {
		add("Int", func(b []byte) []byte { return pack.Int(b, n) }, func(r *pack.Reader) (bool, bool) {
			x := r.Int()
			return x == n, x == 0
		})
	}
	for _, s := range texts() {
		add("Text", func(b []byte) []byte { return pack.Text(b, s) }, func(r *pack.Reader) (bool, bool) {
			x := r.Text(greatest)
			return x == s, x == ""
		})
	}
	for _, f := range []bool{false, true} {
		add("Flag", func(b []byte) []byte { return pack.Flag(b, f) }, func(r *pack.Reader) (bool, bool) {
			x := r.Flag()
			return x == f, !x
		})
	}
	for _, v := range values() {
		add("Value", func(b []byte) []byte { return pack.Value(b, v) }, func(r *pack.Reader) (bool, bool) {
			x := r.Value()
			return x == v, x == api.Value{}
		})
	}
	for _, w := range writes() {
		add("Write", func(b []byte) []byte { return pack.Write(b, w) }, func(r *pack.Reader) (bool, bool) {
			x := r.Write()
			return x == w, x == api.Write{}
		})
	}
	for _, l := range lists() {
		add("Writes", func(b []byte) []byte { return pack.Writes(b, l) }, func(r *pack.Reader) (bool, bool) {
			x := r.Writes(greatest)
			return same(x, l), len(x) == 0
		})
	}
	return m
}

// left tells all that a reader still has, as far as the calls tell it: what each of them answers, in turn.
type left struct {
	n    uint64
	i    int
	s    string
	f    bool
	v    api.Value
	w    api.Write
	l    int
	last api.Errno
}

// drain takes things from a reader till its end, or its error.
func drain(r *pack.Reader) []left {
	var all []left
	for range 40 {
		x := left{last: r.End()}
		switch len(all) % 7 {
		case 0:
			x.f = r.Flag()
		case 1:
			x.n = r.Number(math.MaxUint64)
		case 2:
			x.s = r.Text(greatest)
		case 3:
			x.i = r.Int()
		case 4:
			x.v = r.Value()
		case 5:
			x.w = r.Write()
		case 6:
			x.l = len(r.Writes(greatest))
		}
		all = append(all, x)
	}
	return all
}

// fails tells of a reader that it has an error, and answers nothing any more.
func fails(t *testing.T, r *pack.Reader) {
	t.Helper()
	for range 2 {
		if e := r.End(); e != api.ErrForm {
			t.Fatalf("End: %d, want ErrForm", e)
		}
		if n, i, s, f := r.Number(math.MaxUint64), r.Int(), r.Text(greatest), r.Flag(); n != 0 || i != 0 || s != "" || f {
			t.Fatalf("behind an error: %d, %d, %q, %v", n, i, s, f)
		}
		if v, w, l := r.Value(), r.Write(), r.Writes(greatest); v != (api.Value{}) || w != (api.Write{}) || len(l) != 0 {
			t.Fatalf("behind an error: %#v, %#v, %#v", v, w, l)
		}
		if n, s, l := r.Number(0), r.Text(0), r.Writes(0); n != 0 || s != "" || len(l) != 0 {
			t.Fatalf("behind an error: %d, %q, %#v", n, s, l)
		}
	}
}

// early looks at bytes that end ahead of a thing's end: take tells whether it took the zero one.
func early(t *testing.T, b []byte, take func(r *pack.Reader) bool) {
	t.Helper()
	r := pack.Open(b)
	if !take(r) {
		t.Fatalf("of %v: a thing that doesn't stand there", b)
	}
	fails(t, r)
}

// none looks at bytes at whose front a thing doesn't stand, whatever stands behind them: of that nothing is taken, if it is good too.
func none(t *testing.T, b []byte, take func(r *pack.Reader) bool) {
	t.Helper()
	for _, behind := range [][]byte{nil, of(0), of(1), of(1, 1, 1, 1, 1, 1), bytes.Repeat(of(0), 9), of(1, 1, 1, 1, 1, 2, 1, 1, 97, 0, 0)} {
		early(t, of(b, behind), take)
	}
}

// behind looks at what puts a thing: its bytes, and those behind others.
func behind(t *testing.T, want []byte, put func(b []byte) []byte) {
	t.Helper()
	if b := put(nil); !bytes.Equal(b, want) {
		t.Errorf("%.40v, want %.40v", b, want)
	}
	if b := put(of(9, 8)); !bytes.Equal(b, of(9, 8, want)) {
		t.Errorf("behind 9 8: %.40v, want %.40v behind", b, want)
	}
}

func TestP5_1_Number(t *testing.T) {
	for _, c := range []struct {
		n uint64
		b []byte
	}{
		{0, of(0)}, {1, of(1, 1)}, {127, of(1, 127)}, {128, of(1, 128)}, {255, of(1, 255)}, {256, of(2, 1, 0)}, {257, of(2, 1, 1)}, {300, of(2, 1, 44)}, {65535, of(2, 255, 255)}, {65536, of(3, 1, 0, 0)},
		{1 << 24, of(4, 1, 0, 0, 0)}, {1<<32 - 1, of(4, 255, 255, 255, 255)}, {1 << 32, of(5, 1, 0, 0, 0, 0)}, {1 << 40, of(6, 1, 0, 0, 0, 0, 0)}, {1<<56 - 1, of(7, 255, 255, 255, 255, 255, 255, 255)}, {1 << 56, of(8, 1, 0, 0, 0, 0, 0, 0, 0)},
		{0x0102030405060708, of(8, 1, 2, 3, 4, 5, 6, 7, 8)}, {1 << 63, of(8, 128, 0, 0, 0, 0, 0, 0, 0)}, {math.MaxUint64 - 1, of(8, 255, 255, 255, 255, 255, 255, 255, 254)}, {math.MaxUint64, of(8, 255, 255, 255, 255, 255, 255, 255, 255)},
	} {
		behind(t, c.b, func(b []byte) []byte { return pack.Number(b, c.n) })
		r := pack.Open(c.b)
		if n, e := r.Number(math.MaxUint64), r.End(); n != c.n || e != api.OK {
			t.Errorf("Number of %v: %d, %d, want %d", c.b, n, e, c.n)
		}
	}
}

// A number that is just at most most is taken; one that is one more isn't.
func TestP5_1_NumberOfAtMostMost(t *testing.T) {
	for _, n := range numbers() {
		b := pack.Number(nil, n)
		for _, most := range []uint64{n, n | 1, n | 255, n | 1<<63, math.MaxUint64} {
			r := pack.Open(b)
			if x, e := r.Number(most), r.End(); x != n || e != api.OK {
				t.Errorf("Number(%d) of %v: %d, %d", most, b, x, e)
			}
		}
		if n == 0 {
			continue
		}
		for _, most := range []uint64{0, n / 2, n - 1} {
			none(t, b, func(r *pack.Reader) bool { return r.Number(most) == 0 })
		}
	}
}

// noNumbers: bytes at whose front no number stands; shortNumbers: those of which just the end is missing.
func noNumbers() [][]byte {
	var l [][]byte
	for size := 1; size <= 255; size++ {
		if size > 8 {
			l = append(l, of(size), of(size, 1), of(size, bytes.Repeat(of(1), size)), of(size, bytes.Repeat(of(255), 300)))
			continue
		}
		l = append(l, of(size, 0), of(size, 0, bytes.Repeat(of(1), size-1)), of(size, 0, bytes.Repeat(of(255), size-1)), of(size, bytes.Repeat(of(0), size)))
	}
	return l
}

func shortNumbers() [][]byte {
	l := [][]byte{{}}
	for size := 1; size <= 8; size++ {
		l = append(l, of(size), of(size, bytes.Repeat(of(1), size-1)), of(size, bytes.Repeat(of(255), size-1)))
	}
	return l
}

func TestP5_1_NoNumber(t *testing.T) {
	for _, take := range []func(r *pack.Reader) bool{
		func(r *pack.Reader) bool { return r.Number(math.MaxUint64) == 0 },
		func(r *pack.Reader) bool { return r.Number(0) == 0 },
		func(r *pack.Reader) bool { return r.Int() == 0 },
		func(r *pack.Reader) bool { return r.Text(greatest) == "" },
		func(r *pack.Reader) bool { return r.Value() == api.Value{} },
		func(r *pack.Reader) bool { return r.Write() == api.Write{} },
		func(r *pack.Reader) bool { return len(r.Writes(greatest)) == 0 },
	} {
		for _, b := range noNumbers() {
			none(t, b, take)
		}
		for _, b := range shortNumbers() {
			early(t, b, take)
		}
	}
}

func TestP5_1_Int(t *testing.T) {
	for _, c := range []struct {
		n int
		b []byte
	}{
		{0, of(0)}, {-1, of(1, 1)}, {1, of(1, 2)}, {-2, of(1, 3)}, {2, of(1, 4)}, {127, of(1, 254)}, {-128, of(1, 255)}, {128, of(2, 1, 0)}, {-129, of(2, 1, 1)}, {150, of(2, 1, 44)}, {32767, of(2, 255, 254)}, {-32768, of(2, 255, 255)}, {32768, of(3, 1, 0, 0)},
		{1 << 55, of(8, 1, 0, 0, 0, 0, 0, 0, 0)}, {1 << 62, of(8, 128, 0, 0, 0, 0, 0, 0, 0)}, {-1 << 62, of(8, 127, 255, 255, 255, 255, 255, 255, 255)},
		{greatest - 1, of(8, 255, 255, 255, 255, 255, 255, 255, 252)}, {greatest, of(8, 255, 255, 255, 255, 255, 255, 255, 254)}, {least + 1, of(8, 255, 255, 255, 255, 255, 255, 255, 253)}, {least, of(8, 255, 255, 255, 255, 255, 255, 255, 255)},
	} {
		behind(t, c.b, func(b []byte) []byte { return pack.Int(b, c.n) })
		r := pack.Open(c.b)
		if n, e := r.Int(), r.End(); n != c.n || e != api.OK {
			t.Errorf("Int of %v: %d, %d, want %d", c.b, n, e, c.n)
		}
	}
}

func TestP5_1_Text(t *testing.T) {
	for _, c := range []struct {
		s string
		b []byte
	}{
		{"", of(0)}, {"a", of(1, 1, 97)}, {"ab", of(1, 2, 97, 98)}, {"\x00", of(1, 1, 0)}, {"\xff\x00\x80", of(1, 3, 255, 0, 128)}, {"é", of(1, 2, 0xc3, 0xa9)},
		{sized(255), of(1, 255, sized(255))}, {sized(256), of(2, 1, 0, sized(256))}, {sized(300), of(2, 1, 44, sized(300))}, {sized(65536), of(3, 1, 0, 0, sized(65536))},
	} {
		behind(t, c.b, func(b []byte) []byte { return pack.Text(b, c.s) })
		for _, most := range []int{len(c.s), len(c.s) + 1, greatest} {
			r := pack.Open(c.b)
			if s, e := r.Text(most), r.End(); s != c.s || e != api.OK {
				t.Errorf("Text(%d) of %.20v: %.20q, %d, want %.20q", most, c.b, s, e, c.s)
			}
		}
		for _, most := range []int{len(c.s) - 1, len(c.s) / 2, 0, -1, least} {
			if most < len(c.s) {
				none(t, c.b, func(r *pack.Reader) bool { return r.Text(most) == "" })
			}
		}
	}
}

func TestP5_1_NoText(t *testing.T) {
	for _, most := range []int{greatest, 256, 255, 1, 0, -1, least} {
		take := func(r *pack.Reader) bool { return r.Text(most) == "" }
		for _, b := range [][]byte{nil, of(1, 1), of(1, 2, 97), of(1, 255, sized(254)), of(2, 1, 0, sized(255)), of(1, 3, 255, 0)} {
			early(t, b, take)
		}
		for _, b := range [][]byte{of(8, 255, 255, 255, 255, 255, 255, 255, 255, "abc"), of(8, 127, 255, 255, 255, 255, 255, 255, 255, "abc"), of(8, 128, 0, 0, 0, 0, 0, 0, 0), of(4, 255, 255, 255, 255, "a")} {
			none(t, b, take)
		}
	}
	// Of at most less than 0 bytes there is no text, not even the empty one.
	none(t, of(0), func(r *pack.Reader) bool { return r.Text(-1) == "" })
}

func TestP5_1_Flag(t *testing.T) {
	for i, f := range []bool{false, true} {
		behind(t, of(i), func(b []byte) []byte { return pack.Flag(b, f) })
		r := pack.Open(of(i))
		if x, e := r.Flag(), r.End(); x != f || e != api.OK {
			t.Errorf("Flag of %d: %v, %d", i, x, e)
		}
	}
	early(t, nil, func(r *pack.Reader) bool { return !r.Flag() })
	for c := 2; c <= 255; c++ {
		none(t, of(c), func(r *pack.Reader) bool { return !r.Flag() })
	}
}

func TestP5_1_Value(t *testing.T) {
	for _, c := range []struct {
		v api.Value
		b []byte
	}{
		{api.Value{}, of(0)}, {num(0), of(1, 1, 0)}, {num(5), of(1, 1, 1, 10)}, {num(-1), of(1, 1, 1, 1)}, {num(150), of(1, 1, 2, 1, 44)}, {num(greatest), of(1, 1, 8, 255, 255, 255, 255, 255, 255, 255, 254)}, {num(least), of(1, 1, 8, 255, 255, 255, 255, 255, 255, 255, 255)},
		{text(""), of(1, 2, 0)}, {text("ab"), of(1, 2, 1, 2, 97, 98)}, {text("\x00\xff"), of(1, 2, 1, 2, 0, 255)}, {text(sized(40)), of(1, 2, 1, 40, sized(40))},
	} {
		behind(t, c.b, func(b []byte) []byte { return pack.Value(b, c.v) })
		r := pack.Open(c.b)
		if v, e := r.Value(), r.End(); v != c.v || e != api.OK {
			t.Errorf("Value of %v: %#v, %d, want %#v", c.b, v, e, c.v)
		}
	}
}

// noValues: bytes at whose front stands no value, or one that isn't good; shortValues: those of which just the end is missing.
func noValues() [][]byte {
	l := [][]byte{
		of(1, 0), of(2, 0, 1), of(1, 1, 1, 0), of(1, 1, 2, 0, 9), of(1, 1, 9), of(1, 2, 1, 0), of(1, 2, 9), // no value
		of(1, 2, 1, 41, sized(41)), of(1, 2, 1, 255, sized(255)), of(1, 2, 2, 1, 0, sized(256)), of(1, 2, 8, 255, 255, 255, 255, 255, 255, 255, 255, sized(40)), // a text that is too long
		of(1, 3), of(1, 4, 0), of(1, 255, 1, 1), of(2, 1, 1, 1, 2), of(2, 1, 2, 0), of(5, 1, 0, 0, 0, 1, 0), of(5, 1, 0, 0, 0, 2, 0), of(8, 255, 255, 255, 255, 255, 255, 255, 255), of(8, 128, 0, 0, 0, 0, 0, 0, 1, 1, 2), // of no kind
	}
	for kind := 3; kind <= 255; kind++ {
		l = append(l, of(1, kind), of(1, kind, 0), of(1, kind, 1, 1))
	}
	return l
}

func shortValues() [][]byte {
	return [][]byte{{}, of(1), of(1, 1), of(1, 1, 1), of(1, 1, 8, 255, 255, 255, 255, 255, 255, 255), of(1, 2), of(1, 2, 1), of(1, 2, 1, 2, 97), of(1, 2, 1, 40, sized(39))}
}

func TestP5_1_NoValue(t *testing.T) {
	take := func(r *pack.Reader) bool { return r.Value() == api.Value{} }
	for _, b := range noValues() {
		none(t, b, take)
	}
	for _, b := range shortValues() {
		early(t, b, take)
	}
}

func TestP5_1_Write(t *testing.T) {
	for _, c := range []struct {
		w api.Write
		b []byte
	}{
		{api.Write{Id: api.Id{Dev: 1, Seq: 1}, Op: api.Op{Kind: api.Del, Key: "k"}}, of(1, 1, 1, 1, 1, 2, 1, 1, "k", 0, 0)},
		{api.Write{Id: api.Id{Dev: 3, Seq: 17}, Op: api.Op{Kind: api.Put, Key: "n.1", A: text("ab")}}, of(1, 3, 1, 17, 1, 1, 1, 3, "n.1", 1, 2, 1, 2, "ab", 0)},
		{api.Write{Id: api.Id{Dev: 11, Seq: 40}, Op: api.Op{Kind: api.Add, Key: sized(20), A: num(-1)}}, of(1, 11, 1, 40, 1, 3, 1, 20, sized(20), 1, 1, 1, 1, 0)},
		{api.Write{Id: api.Id{Dev: 2, Seq: 5}, Op: api.Op{Kind: api.Cas, Key: "k"}}, of(1, 2, 1, 5, 1, 4, 1, 1, "k", 0, 0)},
		{api.Write{Id: api.Id{Dev: 2, Seq: 5}, Op: api.Op{Kind: api.Cas, Key: "k", B: num(0)}}, of(1, 2, 1, 5, 1, 4, 1, 1, "k", 0, 1, 1, 0)},
		{api.Write{Id: api.Id{Dev: 2, Seq: 5}, Op: api.Op{Kind: api.Cas, Key: "-", A: num(150), B: text("")}}, of(1, 2, 1, 5, 1, 4, 1, 1, "-", 1, 1, 2, 1, 44, 1, 2, 0)},
	} {
		behind(t, c.b, func(b []byte) []byte { return pack.Write(b, c.w) })
		r := pack.Open(c.b)
		if w, e := r.Write(), r.End(); w != c.w || e != api.OK {
			t.Errorf("Write of %v: %#v, %d, want %#v", c.b, w, e, c.w)
		}
		for size := range c.b { // bytes that end too early
			early(t, c.b[:size], func(r *pack.Reader) bool { return r.Write() == api.Write{} })
		}
	}
}

// noWrites: bytes at whose front stands what would be a write, but is no good one.
func noWrites() [][]byte {
	const past, far = "\x08\x80\x00\x00\x00\x00\x00\x00\x01", "\x05\x01\x00\x00\x00\x01" // 1 and 2^63, 1 and 2^32
	var l [][]byte
	add := func(dev, seq, kind, key, a, b string) { l = append(l, of(dev, seq, kind, key, a, b)) }
	const one, del, put, more, cas, k, nothing, seven, x = "\x01\x01", "\x01\x02", "\x01\x01", "\x01\x03", "\x01\x04", "\x01\x01k", "\x00", "\x01\x01\x01\x0e", "\x01\x02\x01\x01x"
	for _, n := range []string{"\x00", past, far, "\x08\xff\xff\xff\xff\xff\xff\xff\xff", "\x02\x01\x01", "\x01\x29", "\x01\xff", "\x02\x00\x01", "\x01\x00", "\x09"} {
		add(n, one, del, k, nothing, nothing)
		add(one, n, del, k, nothing, nothing)
		add(one, one, n, k, nothing, nothing)
		add(one, one, n, k, seven, nothing)
	}
	add("\x01\x0c", one, del, k, nothing, nothing)
	add("\x01\x0c", "\x01\x29", del, k, nothing, nothing)
	add(one, one, "\x01\x05", k, seven, nothing)
	for _, key := range []string{"\x00", "\x01\x01K", "\x01\x01_", "\x01\x01\xff", "\x01\x02k ", "\x01\x15" + sized(21), "\x02\x01\x00" + sized(256), "\x01\x02k"} {
		add(one, one, del, key, nothing, nothing)
		add(one, one, put, key, seven, nothing)
	}
	add(one, one, put, k, nothing, nothing)
	add(one, one, put, k, nothing, seven)
	add(one, one, put, k, seven, seven)
	add(one, one, put, k, x, x)
	add(one, one, del, k, seven, nothing)
	add(one, one, del, k, nothing, x)
	add(one, one, more, k, nothing, nothing)
	add(one, one, more, k, x, nothing)
	add(one, one, more, k, seven, seven)
	for _, v := range noValues()[:30] {
		add(one, one, cas, k, string(v), nothing)
		add(one, one, cas, k, seven, string(v))
		add(one, one, put, k, string(v), nothing)
	}
	return l
}

func TestP5_1_NoWrite(t *testing.T) {
	good := writes()
	ahead := pack.Write(pack.Write(of(1, 3), good[0]), good[1])
	for _, b := range noWrites() {
		none(t, b, func(r *pack.Reader) bool { return r.Write() == api.Write{} })
		none(t, of(1, 1, b), func(r *pack.Reader) bool { return len(r.Writes(greatest)) == 0 })
		// Nor are good ones ahead of it, in a list.
		none(t, of(ahead, b), func(r *pack.Reader) bool { return len(r.Writes(greatest)) == 0 })
	}
}

func TestP5_1_Writes(t *testing.T) {
	for i, l := range lists() {
		want := pack.Number(nil, uint64(len(l)))
		for _, w := range l {
			want = of(want, pack.Write(nil, w))
		}
		if i == 0 && !bytes.Equal(want, of(0)) {
			t.Errorf("no writes: %v", want)
		}
		behind(t, want, func(b []byte) []byte { return pack.Writes(b, l) })
		for _, most := range []int{len(l), len(l) + 1, greatest} {
			r := pack.Open(want)
			if x, e := r.Writes(most), r.End(); !same(x, l) || e != api.OK {
				t.Errorf("Writes(%d) of %d: %d, %d", most, len(l), len(x), e)
			}
		}
		for _, most := range []int{len(l) - 1, len(l) / 2, 0, -1, least} {
			if most < len(l) {
				none(t, want, func(r *pack.Reader) bool { return len(r.Writes(most)) == 0 })
			}
		}
	}
}

func TestP5_1_NoListOfWrites(t *testing.T) {
	b := pack.Writes(nil, writes()[:5])
	for size := range b { // bytes that end too early
		early(t, b[:size], func(r *pack.Reader) bool { return len(r.Writes(greatest)) == 0 })
	}
	one := pack.Write(nil, writes()[0])
	for _, many := range []uint64{2, 255, 256, 1 << 32, math.MaxInt, math.MaxInt + 1, math.MaxUint64} {
		b := of(pack.Number(nil, many), one)
		for _, most := range []int{greatest, 512, 1, -1} {
			r := pack.Open(b)
			if l := r.Writes(most); len(l) != 0 {
				t.Errorf("Writes(%d) of one that is told as %d: %v", most, many, l)
			}
			fails(t, r)
		}
	}
}

func TestP5_1_End(t *testing.T) {
	r := pack.Open(of(0, 1, 1, 2, 97, 98))
	if e := r.End(); e != api.ErrForm {
		t.Errorf("End ahead of all: %d", e)
	}
	if f, g, e := r.Flag(), r.Flag(), r.End(); f || !g || e != api.ErrForm {
		t.Errorf("two flags, and the End of a text left: %v, %v, %d", f, g, e)
	}
	if s, e := r.Text(2), r.End(); s != "ab" || e != api.OK || r.End() != api.OK {
		t.Errorf("a text, and the End: %q, %d", s, e)
	}
	// At the end no thing stands any more.
	if s, e := r.Text(2), r.End(); s != "" || e != api.ErrForm {
		t.Errorf("a text behind the end: %q, %d", s, e)
	}
	fails(t, r)
	for _, b := range [][]byte{nil, {}, make([]byte, 0, 9), of(1, 2, 3)[:0]} {
		if e := pack.Open(b).End(); e != api.OK {
			t.Errorf("End of no bytes: %d", e)
		}
	}
	for c := range 256 {
		if e := pack.Open(of(c)).End(); e != api.ErrForm {
			t.Errorf("End of the byte %d left: %d", c, e)
		}
	}
}

// Failed tells a reader's error, which End doesn't while bytes are left; asking changes nothing.
func TestP5_1_Failed(t *testing.T) {
	for _, behind := range behinds() {
		r := pack.Open(of(1, 5, behind))
		if r.Failed() || r.Number(5) != 5 || r.Failed() || (r.End() == api.OK) != (len(behind) == 0) || r.Failed() {
			t.Errorf("with %.20v left: an error", behind)
		}
		r = pack.Open(of(1, 5, behind))
		if r.Number(4) != 0 || !r.Failed() || r.End() != api.ErrForm {
			t.Errorf("with %.20v left: none", behind)
		}
		fails(t, r)
		if !r.Failed() {
			t.Errorf("with %.20v left: the error is gone", behind)
		}
	}
	r := pack.Open(nil)
	if r.Failed() || r.Flag() || !r.Failed() {
		t.Error("of no bytes")
	}
}

// Behind the first thing that doesn't stand there nothing is taken any more, however it comes to be.
func TestP5_1_NothingBehindAnError(t *testing.T) {
	first := map[string]func(r *pack.Reader){
		"a number above the most": func(r *pack.Reader) { r.Number(0) }, "an empty text": func(r *pack.Reader) { r.Text(-1) }, "a flag": func(r *pack.Reader) { r.Flag(); r.Flag(); r.Flag() },
		"a value": func(r *pack.Reader) { r.Flag(); r.Value() }, "a write": func(r *pack.Reader) { r.Write() }, "writes": func(r *pack.Reader) { r.Writes(0) }, "writes of less than none": func(r *pack.Reader) { r.Writes(-1) },
	}
	for name, fail := range first {
		r := pack.Open(of(1, 1, 2, 1, 0, 0, 1, 1, 0, pack.Write(nil, writes()[0])))
		fail(r)
		if e := r.End(); e != api.ErrForm {
			t.Errorf("%s: %d", name, e)
		}
		fails(t, r)
	}
	// Two readers of one list have each their own.
	b := of(1, 7)
	r, other := pack.Open(b), pack.Open(b)
	if r.Number(6); r.End() != api.ErrForm || other.Number(7) != 7 || other.End() != api.OK {
		t.Error("a reader has another one's error")
	}
}

func behinds() [][]byte {
	l := [][]byte{nil, of(0), of(1), of(2), of(8), of(9), of(255), of(0, 0, 0), of(1, 1, 1), of(1, 0), bytes.Repeat(of(255), 20), bytes.Repeat(of(0), 20), of(sized(50))}
	return append(l, pack.Write(nil, writes()[3]), pack.Text(pack.Flag(nil, true), "ab"))
}

// P5.2: what is put is taken again, whatever stands ahead of it and behind it, and of that nothing is gone.
func TestP5_2_WhatIsPutIsTakenAgain(t *testing.T) {
	tails := behinds()
	for kind, all := range ways() {
		for i, w := range all {
			b := w.put(nil)
			for _, behind := range tails {
				r := pack.Open(of(b, behind))
				if is, _ := w.take(r); !is {
					t.Errorf("%s %d, with %.20v behind: another one", kind, i, behind)
				}
				if x, y := drain(r), drain(pack.Open(behind)); !slices.Equal(x, y) {
					t.Errorf("%s %d: of %.20v behind it something is gone", kind, i, behind)
				}
			}
			other := all[(i*7+3)%len(all)]
			r := pack.Open(other.put(w.put(of(1))))
			is, again := r.Flag(), false
			if is {
				is, _ = w.take(r)
				again, _ = other.take(r)
			}
			if !is || !again || r.End() != api.OK {
				t.Errorf("%s %d, with one ahead and one behind: another one", kind, i)
			}
		}
	}
}

// What is put ends nowhere ahead of its end.
func TestP5_2_BytesThatEndTooEarly(t *testing.T) {
	for kind, all := range ways() {
		for i, w := range all {
			b := w.put(nil)
			for size := range b {
				if size > 300 && size < len(b)-300 {
					continue
				}
				r := pack.Open(b[:size])
				if _, none := w.take(r); !none || r.End() != api.ErrForm {
					t.Errorf("%s %d: taken of its first %d bytes", kind, i, size)
				}
			}
		}
	}
}

// apart tells of things of one kind that none is put as another one, nor as its beginning.
func apart(t *testing.T, kind string, all [][]byte) {
	t.Helper()
	slices.SortFunc(all, bytes.Compare)
	for i := 1; i < len(all); i++ { // what begins with one stands right behind it
		if bytes.HasPrefix(all[i], all[i-1]) {
			t.Fatalf("%s: %.40v begins %.40v", kind, all[i-1], all[i])
		}
	}
}

func TestP5_2_NoTwoAlike(t *testing.T) {
	var n, i, s [][]byte
	for x := range 70000 {
		n, i = append(n, pack.Number(nil, uint64(x))), append(i, pack.Int(nil, x-35000))
		s = append(s, pack.Text(nil, string(pack.Number(nil, uint64(x)))))
	}
	apart(t, "Number", n)
	apart(t, "Int", i)
	apart(t, "Text", s)
	apart(t, "Flag", [][]byte{pack.Flag(nil, false), pack.Flag(nil, true)})
	var v, w, l [][]byte
	good := values()
	for _, x := range good {
		v = append(v, pack.Value(nil, x))
		for _, y := range good {
			x := api.Write{Id: api.Id{Dev: 1, Seq: 1}, Op: api.Op{Kind: api.Cas, Key: "k", A: x, B: y}}
			w, l = append(w, pack.Write(nil, x)), append(l, pack.Writes(nil, []api.Write{x}), pack.Writes(nil, []api.Write{x, x}))
		}
	}
	for dev := 1; dev < api.MaxNodes; dev++ {
		for seq := 1; seq <= api.MaxSeq; seq++ {
			x := api.Write{Id: api.Id{Dev: dev, Seq: seq}, Op: api.Op{Kind: api.Del, Key: "k"}}
			y, z := x, x
			y.Op.Key, z.Op.Kind = "kk", api.Cas
			for _, x := range []api.Write{x, y, z} {
				if x.Op.Kind == api.Cas && x.Id == (api.Id{Dev: 1, Seq: 1}) {
					continue // among those above
				}
				w = append(w, pack.Write(nil, x))
			}
			l = append(l, pack.Writes(nil, []api.Write{x, y}), pack.Writes(nil, []api.Write{y, x}), pack.Writes(nil, []api.Write{x, y, z}))
		}
	}
	apart(t, "Value", v)
	apart(t, "Write", w)
	apart(t, "Writes", append(l, pack.Writes(nil, nil)))
}

// again takes a thing of each kind from bytes; if it is all that stands there, it must be put as just these.
func again(t *testing.T, b []byte) (taken int) {
	t.Helper()
	look := func(kind string, r *pack.Reader, put []byte) {
		if r.End() != api.OK {
			return
		}
		taken++
		if !bytes.Equal(put, b) {
			t.Fatalf("%s of %v is put as %v", kind, b, put)
		}
	}
	r := pack.Open(b)
	look("Number", r, pack.Number(nil, r.Number(math.MaxUint64)))
	r = pack.Open(b)
	look("Int", r, pack.Int(nil, r.Int()))
	r = pack.Open(b)
	look("Text", r, pack.Text(nil, r.Text(greatest)))
	r = pack.Open(b)
	look("Flag", r, pack.Flag(nil, r.Flag()))
	r = pack.Open(b)
	look("Value", r, pack.Value(nil, r.Value()))
	r = pack.Open(b)
	look("Write", r, pack.Write(nil, r.Write()))
	r = pack.Open(b)
	look("Writes", r, pack.Writes(nil, r.Writes(greatest)))
	return taken
}

// In one way alone: whatever bytes a thing is taken from, it is put as just these.
func TestP5_2_InOneWayAlone(t *testing.T) {
	for x := range 1 << 16 {
		again(t, of(x>>8, x))
		again(t, of(x))
	}
	few := of(0, 1, 2, 3, 8, 9, 97, 255)
	var all func(b []byte)
	all = func(b []byte) {
		again(t, b)
		if len(b) < 5 {
			for _, c := range few {
				all(append(b[:len(b):len(b)], c))
			}
		}
	}
	all(nil)
	taken := 0
	for _, w := range writes()[:40] {
		b := pack.Write(nil, w)
		for i := range b { // one byte turned, gone, or more
			for c := range 256 {
				taken += again(t, of(b[:i], c, b[i+1:]))
			}
			again(t, of(b[:i], b[i+1:]))
			again(t, of(b[:i], 0, b[i:]))
			again(t, of(b[:i], b[i], b[i:]))
		}
	}
	if taken < 40 {
		t.Errorf("only %d were taken", taken)
	}
}

// Which of all bytes of at most two are a number, an int, a text, a flag, a value, told by the chapter's words.
func TestP5_2_AllOfTwoBytes(t *testing.T) {
	for x := range 1 << 16 {
		c, d := x>>8, x&255
		b := of(c, d)
		number, flag, txt, value := c == 1 && d > 0, false, false, false
		if d == 0 {
			b = of(c)
			number, flag, txt, value = c == 0, c <= 1, c == 0, c == 0
		}
		for kind, p := range map[string]struct {
			want bool
			take func(r *pack.Reader)
		}{
			"Number": {number, func(r *pack.Reader) { r.Number(math.MaxUint64) }}, "Int": {number, func(r *pack.Reader) { r.Int() }}, "Text": {txt, func(r *pack.Reader) { r.Text(greatest) }},
			"Flag": {flag, func(r *pack.Reader) { r.Flag() }}, "Value": {value, func(r *pack.Reader) { r.Value() }}, "Write": {false, func(r *pack.Reader) { r.Write() }}, "Writes": {txt, func(r *pack.Reader) { r.Writes(greatest) }},
		} {
			r := pack.Open(b)
			p.take(r)
			if e := r.End(); (e == api.OK) != p.want {
				t.Fatalf("%s of %v: End %d", kind, b, e)
			}
		}
	}
}

// More bytes: what FuzzRead finds is looked at by each call.
func FuzzRead(f *testing.F) {
	for _, all := range ways() {
		for _, w := range all[:min(len(all), 9)] {
			f.Add(w.put(nil))
		}
	}
	f.Fuzz(func(t *testing.T, b []byte) {
		was := bytes.Clone(b)
		again(t, b)
		drain(pack.Open(b))
		if !bytes.Equal(b, was) {
			t.Errorf("%v was read, and is %v", was, b)
		}
	})
}
