package air_test

import (
	"slices"
	"strconv"
	"testing"

	"spinney/air"
	"spinney/api"
)

// All calls end, and none panics.
func TestP9_AnyArguments(t *testing.T) {
	for _, n := range numbers {
		for _, m := range numbers {
			for _, s := range []string{"", "a", "- bc", "a b c"} {
				a := made(t, s)
				a.Send(air.Parcel{From: n, To: m})
				a.Double(n)
				a.Turn(n, m)
				a.Turn(m, n)
				a.Lose(m)
				a.Take(n)
				a.Len()
				a.Parcels()
			}
		}
	}
}

// Many parcels, and long ones, end soon, too.
func TestP9_ManyParcels(t *testing.T) {
	a := air.New()
	long := make([]byte, 1<<20)
	for i := range 100000 {
		if i < 3 {
			a.Send(air.Parcel{To: 1, Bytes: long})
		}
		a.Send(air.Parcel{To: 1, Bytes: []byte("x")})
	}
	if a.Len() != air.MaxAir || a.Turn(0, -1) != api.OK {
		t.Errorf("%d parcels", a.Len())
	}
}

// R1.
func TestP10_R1_IntHas64Bits(t *testing.T) {
	if strconv.IntSize != 64 {
		t.Errorf("an int has %d bits", strconv.IntSize)
	}
	a := made(t, "a b c")
	if p, _ := a.Take(1<<32 + 1); string(p.Bytes) != []string{"a", "b", "c"}[(1<<32+1)%3] {
		t.Errorf("Take: %q", p.Bytes)
	}
}

// R2, R3, R4: of two errors the first; beside it stands nothing, and nothing has changed.
func TestP10_R4_NothingHasChanged(t *testing.T) {
	a := made(t, "a -")
	a.Turn(0, 0)
	for range 2 {
		if a.Send(air.Parcel{From: 1, To: 1}) != api.ErrRange || a.Turn(0, 5) != api.ErrTwice || a.Turn(1, 5) != api.ErrRange {
			t.Error("another error")
		}
		is(t, a, "` -")
	}
}

// R5: bytes that are nil mean the same as those that are empty.
func TestP10_R5_EmptyAndNil(t *testing.T) {
	for _, b := range [][]byte{nil, {}, make([]byte, 0, 9)} {
		a := air.New()
		if a.Send(air.Parcel{To: 1, Bytes: b}) != api.OK || a.Turn(0, 0) != api.ErrRange || a.Double(0) != api.OK {
			t.Error("no bytes")
		}
		is(t, a, "- -")
	}
}

// P22.3, and R6: what is handed in stays, with its spare room, and isn't kept; what was answered may be changed.
func TestP22_3_Memory(t *testing.T) {
	b := append(make([]byte, 0, 9), "abc"...)
	a := air.New()
	a.Send(air.Parcel{To: 1, Bytes: b})
	a.Send(air.Parcel{To: 2, Bytes: b})
	a.Turn(0, 0)
	if !slices.Equal(b[:9], append([]byte("abc"), make([]byte, 6)...)) {
		t.Error("what was handed in has changed")
	}
	clear(b[:9])
	is(t, a, "`bc abc")
	a.Double(1)
	for range 2 {
		l, m := a.Parcels(), a.Parcels()
		for i := range l {
			clear(l[i].Bytes[:cap(l[i].Bytes)])
		}
		clear(a.Parcels()[0].Bytes)
		clear(l[:cap(l)])
		if string(m[1].Bytes) != "abc" || m[2].To != 2 {
			t.Error("two answers share memory")
		}
		is(t, a, "`bc abc abc")
	}
	p, _ := a.Take(1)
	clear(p.Bytes[:cap(p.Bytes)])
	is(t, a, "`bc abc")
	a.Turn(1, 1)
	is(t, a, "`bc cbc")
	q, _ := a.Take(1)
	a.Send(air.Parcel{To: 1, Bytes: []byte("zzz")})
	if string(q.Bytes) != "cbc" {
		t.Error("an answer has changed with the air")
	}
}

// R8: another air is nothing to this one; the same calls answer the same.
func TestP10_R8_TheSameAgain(t *testing.T) {
	a, b := made(t, "a b c"), made(t, "a b c")
	a.Turn(1, 1)
	a.Take(0)
	is(t, b, "a b c")
	b.Turn(1, 1)
	b.Take(0)
	is(t, a, "` c")
	is(t, b, "` c")
}
