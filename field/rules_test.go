package field_test

import (
	"math/rand"
	"slices"
	"strconv"
	"strings"
	"testing"
	"unsafe"

	"spinney/api"
	"spinney/field"
)

// anyWrites: whatever a write may be.
func anyWrites() []api.Write {
	var l []api.Write
	for _, n := range []int{least, -1, 0, 1, 2, 3, 4, 5, 1 << 32, greatest} {
		for _, key := range []string{"", "a", "b", "A", "\xff", strings.Repeat("k", 5000)} {
			for _, v := range []api.Value{{}, num(n), text("x"), {Num: n}, {Text: "x"}, {Kind: api.Kind(n), Num: n, Text: "y"}, {Kind: api.Int, Text: "x"}, {Kind: api.Text, Num: 1}, text(strings.Repeat("t", 5000))} {
				l = append(l, api.Write{Id: api.Id{Dev: n, Seq: n}, Op: api.Op{Kind: n, Key: key, A: v}}, api.Write{Op: api.Op{Kind: n, Key: key, A: v, B: v}}, api.Write{Op: api.Op{Kind: n, Key: key, B: v}})
			}
		}
	}
	return l
}

// anyCells: whatever cells may be.
func anyCells() [][]api.Cell {
	l := [][]api.Cell{nil, {}, {{}}, {{}, {}}, cells("b", 1, "a", 2, "b", 3), cells("", 1), cells("A", strings.Repeat("t", 5000))}
	for _, n := range []int{least, -1, 0, 1, 2, 3, greatest} {
		l = append(l, cells("a", api.Value{Kind: api.Kind(n), Num: n, Text: "x"}, "a", n), cells("\xff", api.Value{Kind: api.Kind(n)}))
	}
	return l
}

// All calls end, and none panics.
func TestP9_AnyArguments(t *testing.T) {
	for _, l := range anyCells() {
		if f, e := field.New(l); e != api.OK && (e != api.ErrForm || f != nil) {
			t.Errorf("New of %s: %d", tell(l), e)
		}
		field.Fold(l, anyWrites())
		for _, r := range append(reaches(), api.Reach{"b", "a", "", "A", "\xff"}) {
			field.Only(l, r)
		}
	}
	f := made(t, cells("a", 1))
	for i, w := range anyWrites() {
		f.Do(w)
		f.At(w.Op.Key)
		f.At("a")
		f.Cells()
		if f.Depth() != i+1 {
			t.Fatalf("depth %d behind %d writes", f.Depth(), i+1)
		}
	}
	for f.Undo() == api.OK {
		f.Cells()
	}
	is(t, f, cells("a", 1), nil)
}

// Many calls end soon, too.
func TestP9_ManyCalls(t *testing.T) {
	f := made(t, nil)
	const n = 1 << 18
	for i := range n {
		f.Do(write(put("k"+strconv.Itoa(i%1000), num(i))))
	}
	if f.Depth() != n || len(f.Cells()) != 1000 || f.At("k5") != num((n-6)/1000*1000+5) {
		t.Errorf("depth %d, %d cells, %v", f.Depth(), len(f.Cells()), f.At("k5"))
	}
	for range n {
		f.Undo()
	}
	is(t, f, nil, nil)
	l := make([]api.Write, n)
	for i := range l {
		l[i] = write(put("k", num(i)))
	}
	if got := field.Fold(nil, l); !slices.Equal(got, cells("k", n-1)) {
		t.Errorf("Fold of many writes: %s", tell(got))
	}
}

// R1.
func TestP10_R1_IntHas64Bits(t *testing.T) {
	if strconv.IntSize != 64 {
		t.Errorf("an int has %d bits", strconv.IntSize)
	}
	f := made(t, cells("a", 1<<32))
	if e := f.Do(write(add("a", 1<<62))); e != api.OK || f.At("a") != num(1<<62+1<<32) {
		t.Errorf("an add: %d, %v", e, f.At("a"))
	}
	if e := f.Do(write(add("a", 1<<62))); e != api.ErrOver {
		t.Errorf("too great a sum: %d", e)
	}
}

// R2: of an add to a text, whose sum would be too great, too, the kind is told.
func TestP10_R2_TheFirstError(t *testing.T) {
	f := made(t, cells("a", "x"))
	if e := f.Do(write(add("a", greatest))); e != api.ErrKind {
		t.Errorf("an add to a text: %d", e)
	}
	if x, e := field.New(cells("B", api.Value{}, "A", api.Value{Kind: 5})); e != api.ErrForm || x != nil {
		t.Errorf("New of cells that are wrong in many ways: %d", e)
	}
}

// R3: beside an error stands the zero value.
func TestP10_R3_BesideAnError(t *testing.T) {
	for _, l := range anyCells() {
		if f, e := field.New(l); e != api.OK && f != nil {
			t.Errorf("New of %s: a field beside %d", tell(l), e)
		}
	}
}

// R4: a call that answers an error has changed nothing, but that a write that fails is remembered.
func TestP10_R4_NothingHasChanged(t *testing.T) {
	l := cells("a", greatest, "b", "x")
	f := made(t, l)
	for i, o := range []api.Op{add("a", 1), add("b", 1), del("c"), cas("a", num(1), num(2)), add("c", 1), cas("c", num(1), num(2))} {
		if e := f.Do(write(o)); e == api.OK {
			t.Errorf("%v doesn't fail", o)
		}
		if !slices.Equal(f.Cells(), l) || f.Depth() != i+1 {
			t.Errorf("%v has changed what stands there", o)
		}
	}
	for f.Undo() == api.OK {
		if !slices.Equal(f.Cells(), l) {
			t.Error("an Undo of what failed has changed what stands there")
		}
	}
	for range 3 {
		if e := f.Undo(); e != api.ErrNone {
			t.Errorf("Undo of nothing: %d", e)
		}
		is(t, f, l, nil)
	}
}

// R5: a list that is nil means the same as one that is empty.
func TestP10_R5_EmptyAndNil(t *testing.T) {
	for _, l := range [][]api.Cell{nil, {}, make([]api.Cell, 0, 9), cells("b", 1, "a", 1)[:0]} {
		is(t, made(t, l), nil, nil)
		for _, w := range [][]api.Write{nil, {}, writes(put("a", num(1)))[:0]} {
			if len(field.Fold(l, w)) != 0 || !slices.Equal(field.Fold(cells("a", 1), w), cells("a", 1)) {
				t.Error("Fold of none")
			}
		}
		for _, r := range []api.Reach{nil, {}, {"a"}, api.Reach{"a"}[:0]} {
			if len(field.Only(l, r)) != 0 {
				t.Error("Only of none")
			}
		}
	}
	for _, r := range []api.Reach{nil, {}, api.Reach{""}[:0]} {
		if len(field.Only(cells("a", 1), r)) != 0 {
			t.Error("Only of no prefix")
		}
	}
}

// own is a list of cells in memory of its own, with others in its spare room.
func own() []api.Cell {
	l := cells("a", "one", "b.1", "two", "c", 3, "d", "four", "e", "five")
	for i := range l {
		l[i].Key, l[i].Value.Text = strings.Clone(l[i].Key), strings.Clone(l[i].Value.Text)
	}
	return l[:3]
}

func ownWrites() []api.Write {
	l := writes(put("b.1", text("new")), cas("a", text("one"), text("other")), put("x", text("some")), del("c"), put("y", text("spare")))
	for i := range l {
		o := &l[i].Op
		o.Key, o.A.Text, o.B.Text = strings.Clone(o.Key), strings.Clone(o.A.Text), strings.Clone(o.B.Text)
	}
	return l[:4]
}

// P12.4, and R6: what is handed in stays, with its spare room.
func TestP12_4_WhatIsHandedInStays(t *testing.T) {
	l, w, r := own(), ownWrites(), append(make(api.Reach, 0, 9), "a", "b")
	whole, wholeWrites := slices.Clone(l[:cap(l)]), slices.Clone(w[:cap(w)])
	for range 2 {
		f := made(t, l)
		for _, x := range w {
			f.Do(x)
		}
		f.Undo()
		for _, x := range [][]api.Cell{f.Cells(), field.Fold(l, w), field.Fold(l, nil), field.Only(l, r), field.Only(l, api.Reach{""})} {
			clear(x[:cap(x)])
		}
		if !slices.Equal(l[:cap(l)], whole) || !slices.Equal(w[:cap(w)], wholeWrites) || !slices.Equal(r, api.Reach{"a", "b"}) || cap(r) != 9 || !slices.Equal(r[2:9], make(api.Reach, 7)) {
			t.Fatal("what was handed in has changed")
		}
	}
}

// P12.4, and R6: what was handed in may be changed behind the call.
func TestP12_4_NothingHandedInIsKept(t *testing.T) {
	l, w := own(), ownWrites()
	f := made(t, l)
	clear(l[:cap(l)])
	is(t, f, own(), nil)
	for i := range w {
		f.Do(w[i])
		w[i] = api.Write{}
		is(t, f, own(), ownWrites()[:i+1])
	}
	for i := len(w) - 1; i >= 0; i-- {
		f.Undo()
		is(t, f, own(), ownWrites()[:i])
	}
	l, w = own(), ownWrites()
	got, only := field.Fold(l, w), field.Only(l, api.Reach{"a", "c"})
	clear(l[:cap(l)])
	clear(w[:cap(w)])
	if !slices.Equal(got, handCells(own(), ownWrites())) || !slices.Equal(only, cells("a", "one", "c", 3)) {
		t.Error("an answer has changed with what was handed in")
	}
}

// P12.4, and R6: answers are new memory: what was told may be changed behind the call.
func TestP12_4_AnswersAreNewMemory(t *testing.T) {
	f := made(t, own())
	for i, w := range ownWrites() {
		f.Do(w)
		x, again := f.Cells(), f.Cells()
		x = append(x[:cap(x)], api.Cell{})
		for j := range x {
			x[j] = api.Cell{Key: "changed", Value: num(-1)}
		}
		first := f.Cells()
		clear(first[:cap(first)])
		if !slices.Equal(again, handCells(own(), ownWrites()[:i+1])) {
			t.Error("two lists of cells share memory")
		}
		is(t, f, own(), ownWrites()[:i+1])
	}
	l := own()
	for _, ask := range []func() []api.Cell{func() []api.Cell { return field.Fold(l, ownWrites()) }, func() []api.Cell { return field.Fold(l, nil) }, func() []api.Cell { return field.Only(l, api.Reach{""}) }, func() []api.Cell { return field.Only(l, api.Reach{"a"}) }} {
		x, y := ask(), ask()
		want := slices.Clone(y)
		clear(x[:cap(x)])
		if !slices.Equal(y, want) || !slices.Equal(ask(), want) || !slices.Equal(l, own()) {
			t.Error("an answer shares memory")
		}
	}
}

// shares tells whether two texts have bytes of one memory.
func shares(a, b string) bool {
	if a == "" || b == "" {
		return false
	}
	x, y := uintptr(unsafe.Pointer(unsafe.StringData(a))), uintptr(unsafe.Pointer(unsafe.StringData(b)))
	return x < y+uintptr(len(b)) && y < x+uintptr(len(a))
}

func textsOf(l []api.Cell) []string {
	var all []string
	for _, c := range l {
		all = append(all, c.Key, c.Value.Text)
	}
	return all
}

// P12.4: the texts of what is answered are new memory, too, each time.
func TestP12_4_Texts(t *testing.T) {
	l, w := own(), ownWrites()
	all := textsOf(l)
	for _, x := range w {
		all = append(all, x.Op.Key, x.Op.A.Text, x.Op.B.Text)
	}
	f := made(t, l)
	for range 2 {
		all = append(append(append(all, textsOf(f.Cells())...), f.At("a").Text, f.At("b.1").Text), textsOf(field.Fold(l, w))...)
		all = append(append(all, textsOf(field.Fold(l, nil))...), textsOf(field.Only(l, api.Reach{"a", "b"}))...)
	}
	for _, x := range w {
		f.Do(x)
		all = append(append(all, textsOf(f.Cells())...), f.At("a").Text, f.At("x").Text)
	}
	for f.Undo() == api.OK {
		all = append(append(all, textsOf(f.Cells())...), f.At("a").Text)
	}
	for i, s := range all {
		if slices.ContainsFunc(all[i+1:], func(x string) bool { return shares(s, x) }) {
			t.Fatalf("text %d, %q, isn't new memory", i, s)
		}
	}
}

// P12.4: two fields of the same cells are changed each of itself alone.
func TestP12_4_FieldsShareNothing(t *testing.T) {
	l := own()
	x, y := made(t, l), made(t, l)
	for _, w := range ownWrites() {
		x.Do(w)
		is(t, y, own(), nil)
	}
	y.Do(write(del("a")))
	is(t, x, own(), ownWrites())
	for x.Undo() == api.OK {
		is(t, y, own(), writes(del("a")))
	}
}

// R7: all that good cells and writes may have.
func TestP10_R7_Limits(t *testing.T) {
	long, full := strings.Repeat("k", api.MaxKey), text(strings.Repeat("\xff", api.MaxText))
	l := []api.Cell{{Key: long, Value: full}}
	ops := []api.Op{cas(long, full, num(least)), add(long, greatest), put(long, full), put("a", num(greatest)), add("a", least), cas(long, full, api.Value{})}
	f := made(t, l)
	for i, o := range ops {
		if e := f.Do(write(o)); e != api.OK {
			t.Errorf("%v: %d", o, e)
		}
		is(t, f, l, writes(ops[:i+1]...))
	}
	if got := field.Fold(l, writes(ops...)); !slices.Equal(got, cells("a", -1)) {
		t.Errorf("Fold: %s", tell(got))
	}
}

// R8: what a call answers hangs on what the field keeps alone, however it came to be.
func TestP10_R8_TheSameAgain(t *testing.T) {
	r := rand.New(rand.NewSource(128))
	for range 100 {
		l := someCells(r, someKeys())
		done := someWrites(r, l, someKeys(), 20)
		x, y, other := made(t, l), made(t, l), made(t, nil)
		for i, w := range done {
			for range i % 3 { // there and back, and other fields between
				y.Do(done[(i*7)%len(done)])
				other.Do(w)
				y.Undo()
			}
			e, f := x.Do(w), y.Do(w)
			if e != f || !slices.Equal(x.Cells(), y.Cells()) || x.Depth() != y.Depth() {
				t.Fatalf("%v: %d and %d", w.Op, e, f)
			}
		}
		if !slices.Equal(field.Fold(l, done), x.Cells()) || !slices.Equal(field.Fold(l, done), field.Fold(l, done)) {
			t.Fatal("Fold answers something else")
		}
	}
}
