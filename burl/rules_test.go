package burl_test

import (
	"math"
	"slices"
	"strconv"
	"strings"
	"testing"
	"unsafe"

	"spinney/api"
	"spinney/burl"
)

// All calls end, and none panics.
func TestP9_AnyArguments(t *testing.T) {
	odd := []api.Cell{{}, {Key: "\xff", Value: api.Value{Kind: 9, Num: least, Text: "x"}}, {}, {Key: strings.Repeat("k", 9999)}}
	for _, n := range []int{least, -1, 0, 15, 16, greatest} {
		burl.At(odd, n)
		v := api.Value{Kind: api.Kind(n), Num: n, Text: "\xff"}
		burl.Change(burl.Burl{Root: math.MaxUint64, Leaves: [16]uint64{1, 2}}, strings.Repeat("\xff", 99), v, v)
	}
	burl.Of(odd)
	burl.Differ(odd, cells(2))
	burl.Differ(cells(2), odd)
	burl.Part(burl.Burl{Root: 1}, burl.Burl{})
}

// Many bytes and cells end soon, too.
func TestP9_ManyCells(t *testing.T) {
	if burl.Digest(make([]byte, 1<<22)) != digest(make([]byte, 1<<22)) {
		t.Error("Digest of many bytes")
	}
	l := cells(9999)
	of(t, l)
	if keys, e := burl.Differ(l, l[:9000]); e != api.OK || len(keys) != 999 {
		t.Errorf("Differ: %d keys, %d", len(keys), e)
	}
}

// R1.
func TestP10_R1_IntHas64Bits(t *testing.T) {
	if strconv.IntSize != 64 {
		t.Errorf("an int has %d bits", strconv.IntSize)
	}
	a, b := of(t, []api.Cell{{Key: "a", Value: num(1)}}), of(t, []api.Cell{{Key: "a", Value: num(1<<32 + 1)}})
	if len(burl.Part(a, b)) != 1 {
		t.Error("numbers beyond 32 bits")
	}
}

// R2, R3: there is one error alone; beside it stands the zero value.
func TestP10_R3_BesideAnError(t *testing.T) {
	if x, e := burl.Of([]api.Cell{{}}); x != (burl.Burl{}) || e != api.ErrForm {
		t.Errorf("Of: %v, %d", x, e)
	}
	if l, e := burl.Differ(cells(3), []api.Cell{{}}); l != nil || e != api.ErrForm {
		t.Errorf("Differ: %v, %d", l, e)
	}
}

// R5: a list that is nil means the same as one that is empty.
func TestP10_R5_EmptyAndNil(t *testing.T) {
	for _, l := range [][]api.Cell{nil, {}, cells(3)[:0]} {
		if of(t, l) != of(t, nil) || len(burl.At(l, 0)) != 0 {
			t.Error("no cells")
		}
		if k, e := burl.Differ(l, nil); e != api.OK || len(k) != 0 {
			t.Errorf("Differ: %v, %d", k, e)
		}
	}
	if burl.Digest([]byte{}) != burl.Digest(nil) {
		t.Error("no bytes")
	}
}

// own is a list of cells in memory of its own.
func own() []api.Cell {
	l := cells(20)
	for i := range l {
		l[i].Key, l[i].Value.Text = strings.Clone(l[i].Key), strings.Clone(l[i].Value.Text)
	}
	return l
}

// shares tells whether two texts have bytes of one memory.
func shares(a, b string) bool {
	if a == "" || b == "" {
		return false
	}
	x, y := uintptr(unsafe.Pointer(unsafe.StringData(a))), uintptr(unsafe.Pointer(unsafe.StringData(b)))
	return x < y+uintptr(len(b)) && y < x+uintptr(len(a))
}

// P28.4, and R4, R6: what is handed in stays; answers are new memory.
func TestP28_4_Memory(t *testing.T) {
	l, b := own(), append(make([]byte, 0, 9), "abc"...)
	was := slices.Clone(l[:cap(l)])
	for range 2 {
		burl.Digest(b)
		x := of(t, l)
		burl.Change(x, "k0001", l[1].Value, num(1))
		for leaf := range 16 {
			p, q := burl.At(l, leaf), burl.At(l, leaf)
			if len(p) > 0 {
				clear(p[:cap(p)])
				if q[0].Key == "" {
					t.Error("two answers share memory")
				}
			}
		}
		k, m := first(burl.Differ(l, nil)), first(burl.Differ(l, nil))
		clear(k[:cap(k)])
		if len(m) != 20 || m[0] != "k0000" {
			t.Error("two answers share memory")
		}
		if y := of(t, nil); len(burl.Part(x, y)) > 0 {
			p, q := burl.Part(x, y), burl.Part(x, y)
			n := q[0]
			p[0] = 99
			if q[0] != n {
				t.Error("two answers share memory")
			}
		}
		if !slices.Equal(l[:cap(l)], was) || string(b[:9]) != "abc\x00\x00\x00\x00\x00\x00" || x != of(t, l) {
			t.Fatal("what was handed in has changed")
		}
	}
	var all []string
	for _, c := range slices.Concat(l, burl.At(l, 3), burl.At(l, 3)) {
		all = append(all, c.Key, c.Value.Text)
	}
	all = append(all, first(burl.Differ(l, nil))...)
	for i, s := range all {
		if slices.ContainsFunc(all[i+1:], func(x string) bool { return shares(s, x) }) {
			t.Fatalf("text %d, %q, isn't new memory", i, s)
		}
	}
}

func first(l []string, e api.Errno) []string { return l }

// R8: the same again.
func TestP10_R8_TheSameAgain(t *testing.T) {
	want := of(t, cells(50))
	for range 5 {
		of(t, cells(3))
		burl.Change(want, "a", api.Value{}, num(1))
		if of(t, cells(50)) != want {
			t.Error("another answer")
		}
	}
}
