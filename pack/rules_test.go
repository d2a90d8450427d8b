package pack_test

import (
	"bytes"
	"math"
	"slices"
	"strconv"
	"strings"
	"testing"
	"unsafe"

	"spinney/api"
	"spinney/pack"
)

// anyBytes: most of them no thing's.
func anyBytes() [][]byte {
	l := [][]byte{nil, {}, make([]byte, 0, 9), of(sized(1 << 16)), bytes.Repeat(of(0), 1<<16), bytes.Repeat(of(1), 1<<16), bytes.Repeat(of(8, 255), 1<<15), of(8, bytes.Repeat(of(255), 1<<16))}
	l = append(l, noWrites()...)
	l = append(l, shortValues()...)
	for c := range 256 {
		l = append(l, of(c), of(1, c), of(c, c, c, c), of(2, c, 0, 1, 1))
	}
	return l
}

// badWrites: none of them good.
func badWrites() []api.Write {
	var l []api.Write
	for _, n := range []int{least, -1, 0, 3, 5, 12, 41, greatest} {
		v := api.Value{Kind: api.Kind(n), Num: n, Text: strings.Repeat("\xff", 1000)}
		l = append(l, api.Write{Id: api.Id{Dev: n, Seq: n}, Op: api.Op{Kind: n, Key: "NO KEY", A: v, B: v}})
	}
	return append(l, api.Write{}, api.Write{Op: api.Op{Key: sized(1 << 16)}})
}

// mosts: of texts, and of lists.
func mosts() []int { return []int{least, -1, 0, 1, 7, api.MaxText, 512, greatest} }

type answers struct {
	put  [7][]byte
	left []left
}

// ask puts a thing of each kind behind b, and takes some from it.
func ask(b []byte, n uint64, v api.Value, l []api.Write) (r answers) {
	r.put = [7][]byte{pack.Number(b, n), pack.Int(b, int(n)), pack.Flag(b, n%2 == 1), pack.Text(b, v.Text), pack.Value(b, v), pack.Write(b, l[0]), pack.Writes(b, l)}
	r.left = drain(pack.Open(b))
	return r
}

// alike tells whether two answers are.
func alike(a, b answers) bool {
	return slices.EqualFunc(a.put[:], b.put[:], bytes.Equal) && slices.Equal(a.left, b.left)
}

// All calls end, and none panics, of what isn't good too.
func TestP9_AnyArguments(t *testing.T) {
	bad := badWrites()
	for _, b := range anyBytes() {
		for _, n := range numbers() {
			pack.Open(b).Number(n)
		}
		for _, most := range mosts() {
			pack.Open(b).Text(most)
			pack.Open(b).Writes(most)
		}
		drain(pack.Open(b))
	}
	for _, b := range [][]byte{nil, {}, of(1, 2, 3), make([]byte, 3, 9)} {
		for _, n := range numbers() {
			pack.Number(b, n)
			pack.Int(b, int(n))
		}
		for i, w := range bad {
			pack.Value(b, w.Op.A)
			pack.Write(b, w)
			pack.Writes(b, bad[i:])
		}
	}
}

// Many things end soon, too.
func TestP9_ManyThings(t *testing.T) {
	const many = 1 << 18
	l := slices.Repeat([]api.Write{{Id: api.Id{Dev: 1, Seq: 1}, Op: api.Op{Kind: api.Del, Key: "k"}}}, many)
	b := pack.Writes(nil, l)
	r := pack.Open(b)
	if x, e := r.Writes(many), r.End(); !same(x, l) || e != api.OK {
		t.Errorf("many writes: %d, %d", len(x), e)
	}
	r = pack.Open(b[:len(b)-1])
	if x, e := r.Writes(many), r.End(); len(x) != 0 || e != api.ErrForm {
		t.Errorf("many writes, and the last one too short: %d, %d", len(x), e)
	}
	s := strings.Repeat("\x00", 1<<24)
	r = pack.Open(pack.Text(nil, s))
	if x, e := r.Text(1<<24), r.End(); x != s || e != api.OK {
		t.Errorf("a long text: %d, %d", len(x), e)
	}
	r = pack.Open(of(s))
	for range 1 << 24 {
		r.Number(0)
	}
	if e := r.End(); e != api.OK {
		t.Errorf("many numbers: %d", e)
	}
}

// R1.
func TestP10_R1_IntHas64Bits(t *testing.T) {
	if strconv.IntSize != 64 {
		t.Errorf("an int has %d bits", strconv.IntSize)
	}
	for _, n := range []int{1<<32 + 1, -1<<32 - 1, greatest, least} {
		r := pack.Open(pack.Value(pack.Int(nil, n), num(n)))
		if i, v, e := r.Int(), r.Value(), r.End(); i != n || v != num(n) || e != api.OK {
			t.Errorf("%d: %d, %#v, %d", n, i, v, e)
		}
	}
}

// R2: this layer has one error alone: whatever else is wrong too, it is that.
func TestP10_R2_TheFirstError(t *testing.T) {
	for _, b := range [][]byte{of(9), of(1, 0, 5), of(2, 0), of(1, 2, 9), of(8, 0)} { // wrong, or too short, with bytes left
		r := pack.Open(b)
		r.Number(1)
		if e := r.End(); e != api.ErrForm {
			t.Errorf("%v: %d, want ErrForm", b, e)
		}
	}
}

// stands tells whether a thing stands at the front of bytes: then just one beginning of these is the thing, whole.
func stands(b []byte, take func(r *pack.Reader) bool) bool {
	for size := range len(b) + 1 {
		r := pack.Open(b[:size])
		take(r)
		if r.End() == api.OK {
			return true
		}
	}
	return false
}

// R3: beside an error stands the zero value: of what has an error only in its midst, too.
func TestP10_R3_BesideAnError(t *testing.T) {
	had, failed := 0, 0
	for _, b := range append(anyBytes(), pack.Writes(nil, writes()[:3])) {
		for size := range min(len(b), 30) + 1 {
			for i, take := range []func(r *pack.Reader) bool{
				func(r *pack.Reader) bool { return r.Number(200) == 0 },
				func(r *pack.Reader) bool { return r.Int() == 0 },
				func(r *pack.Reader) bool { return r.Text(3) == "" },
				func(r *pack.Reader) bool { return !r.Flag() },
				func(r *pack.Reader) bool { return r.Value() == api.Value{} },
				func(r *pack.Reader) bool { return r.Write() == api.Write{} },
				func(r *pack.Reader) bool { return len(r.Writes(3)) == 0 },
			} {
				if stands(b[:size], take) {
					had++
					continue
				}
				failed++
				if !take(pack.Open(b[:size])) {
					t.Fatalf("of %v: a thing beside an error, by take %d", b[:size], i)
				}
			}
		}
	}
	if had < 100 || failed < 100 {
		t.Errorf("only %d things stood there, and %d didn't", had, failed)
	}
}

// R4, R8: nothing is kept beside a reader: whatever was asked between, an answer is what it was; End changes nothing.
func TestP10_R4_R8_TheSameAgain(t *testing.T) {
	all, n, v, l := anyBytes(), numbers(), values(), writes()
	look := func(i int) answers { return ask(all[i], n[i%len(n)], v[i%len(v)], l[i%len(l):]) }
	var first []answers
	for i := range all {
		first = append(first, look(i))
	}
	for i := len(all) - 1; i >= 0; i-- {
		if !alike(look(i), first[i]) {
			t.Errorf("%d: another answer", i)
		}
	}
	r := pack.Open(of(1, 5, 1, 6))
	for range 3 {
		if e := r.End(); e != api.ErrForm {
			t.Errorf("End with bytes left: %d", e)
		}
	}
	if x, y, e := r.Number(5), r.Number(6), r.End(); x != 5 || y != 6 || e != api.OK {
		t.Errorf("behind an End that answered ErrForm: %d, %d, %d", x, y, e)
	}
}

// R5: a list that is nil means the same as one that is empty.
func TestP10_R5_EmptyAndNil(t *testing.T) {
	some := of(1, 2, 3)
	for _, b := range [][]byte{nil, {}, make([]byte, 0, 99), some[:0]} {
		if !alike(ask(b, 7, text("ab"), writes()[:2]), ask(nil, 7, text("ab"), writes()[:2])) {
			t.Errorf("behind no bytes %#v: something else than behind others", b)
		}
		if e := pack.Open(b).End(); e != api.OK {
			t.Errorf("a reader of no bytes %#v: %d", b, e)
		}
	}
	for _, l := range [][]api.Write{nil, {}, make([]api.Write, 0, 9), writes()[:0]} {
		if b := pack.Writes(of(7), l); !bytes.Equal(b, of(7, 0)) {
			t.Errorf("no writes %#v: %v", l, b)
		}
	}
}

// spacious: bytes with others in the spare room behind them.
func spacious(size, room int) []byte {
	b := make([]byte, 0, size+room)
	for i := range size + room {
		b = append(b, byte(100+i))
	}
	return b[:size]
}

// roomyWrites: good ones, with others in the spare room, each text in memory of its own.
func roomyWrites() []api.Write {
	l := make([]api.Write, 0, 6)
	for i := range 6 {
		o := api.Op{Kind: api.Cas, Key: strings.Clone("key"), A: text(strings.Clone("old")), B: text(strings.Clone("new"))}
		l = append(l, api.Write{Id: api.Id{Dev: 1, Seq: 1 + i}, Op: o})
	}
	return l[:3]
}

// P5.3, and R6: what is handed in stays, with its spare room, however great that is.
func TestP5_3_WhatIsHandedInStays(t *testing.T) {
	for _, size := range []int{0, 1, 7, 64} {
		for _, room := range []int{0, 1, 2, 3, 9, 100, 5000} {
			b, l, v := spacious(size, room), roomyWrites(), text(strings.Clone("ab"))
			was, wasL := bytes.Clone(b[:cap(b)]), slices.Clone(l[:cap(l)])
			ask(b, 300, v, l)
			if !bytes.Equal(b[:cap(b)], was) || !slices.Equal(l[:cap(l)], wasL) || v.Text != "ab" {
				t.Fatalf("what was handed in has changed: %v, %v", b[:cap(b)], l[:cap(l)])
			}
		}
	}
	for kind, all := range ways() {
		for i, w := range all {
			b := spacious(5, 100)
			was, put := bytes.Clone(b[:cap(b)]), w.put(b)
			if !bytes.Equal(b[:cap(b)], was) || !bytes.Equal(put, of(was[:5], w.put(nil))) {
				t.Fatalf("%s %d: what was handed in has changed, or isn't ahead", kind, i)
			}
			read := bytes.Clone(put)
			w.take(pack.Open(put))
			w.take(pack.Open(put[5:]))
			if !bytes.Equal(put, read) {
				t.Fatalf("%s %d: what was read has changed", kind, i)
			}
		}
	}
}

// P5.3, and R6: answers are new memory: writing to them, and to their spare room, changes nothing else.
func TestP5_3_AnswersAreNewMemory(t *testing.T) {
	for _, room := range []int{0, 1, 9, 5000} {
		b, l := spacious(7, room), roomyWrites()
		was := bytes.Clone(b[:cap(b)])
		first, again := ask(b, 300, text("ab"), l), ask(b, 300, text("ab"), l)
		for i, x := range first.put {
			clear(x[:cap(x)])
			if !bytes.Equal(b[:cap(b)], was) || !alike(again, ask(b, 300, text("ab"), l)) {
				t.Fatalf("answer %d shares memory", i)
			}
			for j := i + 1; j < len(first.put); j++ {
				if !bytes.Equal(first.put[j], again.put[j]) {
					t.Fatalf("answers %d and %d share memory", i, j)
				}
			}
		}
	}
}

// P5.3: what grows behind one list twice is two lists.
func TestP5_3_TwoBehindOne(t *testing.T) {
	for kind, all := range ways() {
		head := pack.Text(nil, "head") // an answer may have spare room, too
		for i, w := range all {
			other := all[(i+1)%len(all)]
			x := w.put(head)
			was := bytes.Clone(x)
			y := other.put(head)
			if !bytes.Equal(x, was) || !bytes.Equal(y, of(head, other.put(nil))) {
				t.Fatalf("%s %d: behind one list it was changed by the next", kind, i)
			}
		}
	}
}

// A reader doesn't follow what it was opened of; nor do answers, or what was put, follow anything.
func TestP5_3_NothingHandedInIsKept(t *testing.T) {
	l := roomyWrites()
	b := pack.Writes(pack.Text(pack.Number(nil, 300), "abc"), l)
	r := pack.Open(b)
	n := r.Number(300)
	clear(b[:cap(b)])
	s, x, e := r.Text(3), r.Writes(3), r.End()
	if n != 300 || s != "abc" || !same(x, l) || e != api.OK {
		t.Errorf("a reader has changed with its bytes: %d, %q, %v, %d", n, s, x, e)
	}
	in := roomyWrites()
	put, wanted := pack.Writes(nil, in), pack.Writes(nil, roomyWrites())
	clear(in[:cap(in)])
	if !bytes.Equal(put, wanted) {
		t.Error("what was put has changed with what was handed in")
	}
}

// shares tells whether two texts have bytes of one memory.
func shares(a, b string) bool {
	if a == "" || b == "" {
		return false
	}
	x, y := uintptr(unsafe.Pointer(unsafe.StringData(a))), uintptr(unsafe.Pointer(unsafe.StringData(b)))
	return x < y+uintptr(len(b)) && y < x+uintptr(len(a))
}

// P5.3: the texts of what is taken are new memory, of one list each its own.
func TestP5_3_Texts(t *testing.T) {
	l := roomyWrites()
	b := pack.Writes(pack.Text(pack.Value(nil, text("abc")), "abc"), l)
	from := unsafe.String(unsafe.SliceData(b), cap(b))
	var all []string
	for range 2 {
		r := pack.Open(b)
		v, s, x := r.Value(), r.Text(3), r.Writes(3)
		if v != text("abc") || s != "abc" || !same(x, l) {
			t.Fatalf("%#v, %q, %v", v, s, x)
		}
		all = append(all, v.Text, s)
		for _, w := range x {
			all = append(all, w.Op.Key, w.Op.A.Text, w.Op.B.Text)
		}
		r = pack.Open(b)
		r.Value()
		r.Text(3)
		y := r.Writes(3)
		clear(x[:cap(x)])
		if !same(y, l) {
			t.Fatal("lists that were taken share memory")
		}
	}
	for i, s := range all {
		if shares(s, from) || slices.ContainsFunc(all[i+1:], func(x string) bool { return shares(s, x) }) {
			t.Fatalf("the text %q, number %d, isn't new memory", s, i)
		}
	}
}

// P5.3: nor are they pieces of what the reader keeps: there two texts would lie one behind the other, as they were put.
func TestP5_3_TextsOfOneReader(t *testing.T) {
	one := pack.Text(nil, sized(100))
	r := pack.Open(of(one, one))
	x, y := r.Text(100), r.Text(100)
	if x != sized(100) || y != x || r.End() != api.OK {
		t.Fatalf("%q, %q", x, y)
	}
	if uintptr(unsafe.Pointer(unsafe.StringData(x)))+uintptr(len(one)) == uintptr(unsafe.Pointer(unsafe.StringData(y))) {
		t.Error("texts are pieces of the reader's memory")
	}
}

// R8: what stands in spare room, or how much of it there is, is nothing to any call.
func TestP10_R8_SpareRoomIsNothing(t *testing.T) {
	want := ask(of(1, 2, 3), 300, text("ab"), writes()[:3])
	for room := range 50 {
		b := append(make([]byte, 0, 3+room), 1, 2, 3)
		for i := range b[3:cap(b)] {
			b[3:cap(b)][i] = byte(i)
		}
		if !alike(ask(b, 300, text("ab"), writes()[:3]), want) {
			t.Fatalf("with %d bytes of spare room: another answer", room)
		}
	}
}

// R7: of texts and bytes each one is taken; a number of at most each most.
func TestP10_R7_AnyTextsAndBytes(t *testing.T) {
	for c := range 256 {
		s := string(of(c, 0, c))
		r := pack.Open(pack.Text(of(c), s)[1:])
		if x, e := r.Text(3), r.End(); x != s || e != api.OK {
			t.Errorf("%q: %q, %d", s, x, e)
		}
	}
	r := pack.Open(pack.Number(nil, math.MaxUint64))
	if n, e := r.Number(math.MaxUint64), r.End(); n != math.MaxUint64 || e != api.OK {
		t.Errorf("the greatest number: %d, %d", n, e)
	}
}
