package sap_test

import (
	"math"
	"slices"
	"strconv"
	"strings"
	"testing"
	"unsafe"

	"spinney/api"
	"spinney/sap"
)

// All calls end, and none panics.
func TestP9_AnyArguments(t *testing.T) {
	for _, n := range []int{math.MinInt, -1, 0, 1, 2, 3, 4, 5, math.MaxInt} {
		x := api.Value{Kind: api.Kind(n), Num: n, Text: "\xff"}
		sap.New([]api.Cell{{Key: "a", Value: x}})
		l := []api.Write{{Id: api.Id{Dev: n, Seq: n}, Op: api.Op{Kind: n, Key: "\xff", A: x, B: x}}, {}, {}}
		v := made(t, some())
		for _, p := range [][3][]api.Write{{l, nil, nil}, {nil, l, l}, {l, l, l}, {}} {
			v.Tell(p[0], p[1], p[2])
			v.At("\xff")
			v.Cells()
			v.Sequence()
			sap.Sequence(p[0], p[1], p[2])
		}
		is(t, v, some(), nil)
	}
}

// Many writes end soon, too.
func TestP9_ManyWrites(t *testing.T) {
	l := slices.Repeat(list("1/1 2/5 1/40 11/3"), 1<<15)
	v := made(t, nil)
	v.Tell(l[:1], l, l)
	v.Tell(l, l, l)
	if v.Work() < 1<<17 || len(v.Sequence()) != 1<<17 {
		t.Errorf("work %d", v.Work())
	}
	v.Tell(nil, nil, nil)
	is(t, v, nil, nil)
}

// R1.
func TestP10_R1_IntHas64Bits(t *testing.T) {
	if strconv.IntSize != 64 {
		t.Errorf("an int has %d bits", strconv.IntSize)
	}
	v := made(t, []api.Cell{{Key: "a", Value: num(math.MaxInt)}})
	v.Tell([]api.Write{{Id: api.Id{Dev: 1, Seq: 1}, Op: api.Op{Kind: api.Add, Key: "a", A: num(1)}}}, nil, nil)
	if v.At("a") != num(math.MaxInt) {
		t.Errorf("%v", v.At("a"))
	}
}

// R2, R3, R4: there is one error alone; beside it stands nothing.
func TestP10_R3_BesideAnError(t *testing.T) {
	if v, e := sap.New([]api.Cell{{Key: "B"}, {Key: "A"}}); v != nil || e != api.ErrForm {
		t.Errorf("New: %d", e)
	}
}

// R5: a list that is nil means the same as one that is empty.
func TestP10_R5_EmptyAndNil(t *testing.T) {
	for _, c := range [][]api.Cell{nil, {}, some()[:0]} {
		for _, l := range [][]api.Write{nil, {}, make([]api.Write, 0, 9), list("1/1 2/1")[:0]} {
			v := made(t, c)
			v.Tell(l, l, l)
			is(t, v, nil, nil)
			v.Tell(l, list("1/1"), l)
			is(t, v, nil, list("1/1"))
			if len(sap.Sequence(l, l, l)) != 0 || v.Work() != 1 {
				t.Error("parts of none")
			}
		}
	}
}

// own is a list in memory of its own, with others in its spare room.
func own(s string) []api.Write {
	l := list(s + " 9/9 9/9 9/9")
	for i := range l {
		o := &l[i].Op
		o.Key, o.A.Text, o.B.Text = strings.Clone(o.Key), strings.Clone(o.A.Text), strings.Clone(o.B.Text)
	}
	return l[:len(l)-3]
}

// P16.4, and R6: what is handed in stays, with its spare room, and isn't kept.
func TestP16_4_WhatIsHandedIn(t *testing.T) {
	c := append(some(), api.Cell{Key: "zz", Value: num(1)})[:3]
	known, tail, wait := own("1/1 1/2"), own("2/1 1/2 2/2"), own("3/1 2/1 1/1 3/2")
	was := []any{slices.Clone(c[:4]), slices.Clone(known[:cap(known)]), slices.Clone(tail[:cap(tail)]), slices.Clone(wait[:cap(wait)])}
	v := made(t, c)
	for range 2 {
		v.Tell(known, tail, wait)
		x := sap.Sequence(known, tail, wait)
		clear(x[:cap(x)])
		v.Tell(known, nil, wait)
		v.Tell(known, tail, wait)
	}
	if !slices.Equal(c[:4], was[0].([]api.Cell)) || !slices.Equal(known[:cap(known)], was[1].([]api.Write)) || !slices.Equal(tail[:cap(tail)], was[2].([]api.Write)) || !slices.Equal(wait[:cap(wait)], was[3].([]api.Write)) {
		t.Fatal("what was handed in has changed")
	}
	x := sap.Sequence(known, tail, wait)
	clear(c[:cap(c)])
	clear(known[:cap(known)])
	clear(tail[:cap(tail)])
	clear(wait[:cap(wait)])
	is(t, v, some(), list("1/1 1/2 2/1 2/2 3/1 3/2"))
	if !slices.Equal(x, list("1/1 1/2 2/1 2/2 3/1 3/2")) {
		t.Error("an answer has changed with what was handed in")
	}
	v.Tell(list("1/1"), nil, nil)
	is(t, v, some(), list("1/1"))
}

// P16.4, and R6: what was told may be changed behind the call, its spare room, too.
func TestP16_4_AnswersAreNewMemory(t *testing.T) {
	v := made(t, some())
	v.Tell(list("1/1 1/2"), list("2/1"), list("3/1"))
	for range 2 {
		x, y, c, d := v.Sequence(), v.Sequence(), v.Cells(), v.Cells()
		clear(x[:cap(x)])
		clear(c[:cap(c)])
		if !slices.Equal(y, list("1/1 1/2 2/1 3/1")) || !slices.Equal(d, seen(some(), y)) {
			t.Error("two answers share memory")
		}
		is(t, v, some(), list("1/1 1/2 2/1 3/1"))
	}
	x, c := v.Sequence(), v.Cells()
	v.Tell(nil, nil, list("5/5 5/6"))
	if !slices.Equal(x, list("1/1 1/2 2/1 3/1")) || !slices.Equal(c, seen(some(), x)) {
		t.Error("an answer has changed with the view")
	}
}

// shares tells whether two texts have bytes of one memory.
func shares(a, b string) bool {
	if a == "" || b == "" {
		return false
	}
	x, y := uintptr(unsafe.Pointer(unsafe.StringData(a))), uintptr(unsafe.Pointer(unsafe.StringData(b)))
	return x < y+uintptr(len(b)) && y < x+uintptr(len(a))
}

// P16.4: texts are new memory, too.
func TestP16_4_Texts(t *testing.T) {
	l := own("1/1 1/2 1/3")
	v := made(t, nil)
	v.Tell(l, nil, nil)
	var all []string
	for _, x := range [][]api.Write{l, v.Sequence(), v.Sequence(), sap.Sequence(nil, l, nil), sap.Sequence(nil, nil, l)} {
		for _, w := range x {
			all = append(all, w.Op.Key, w.Op.A.Text, w.Op.B.Text)
		}
	}
	for i, s := range all {
		if slices.ContainsFunc(all[i+1:], func(x string) bool { return shares(s, x) }) {
			t.Fatalf("text %d, %q, isn't new memory", i, s)
		}
	}
}

// R8: another view is nothing to this one; the same calls answer the same.
func TestP10_R8_TheSameAgain(t *testing.T) {
	a, b := made(t, some()), made(t, some())
	a.Tell(list("1/1"), nil, nil)
	b.Tell(nil, nil, list("2/2"))
	is(t, a, some(), list("1/1"))
	is(t, b, some(), list("2/2"))
	for range 3 {
		c := made(t, some())
		c.Tell(list("1/1"), nil, nil)
		if c.Work() != a.Work() {
			t.Errorf("work %d", c.Work())
		}
		is(t, c, some(), list("1/1"))
	}
}
