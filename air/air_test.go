package air_test

import (
	"math"
	"math/bits"
	"math/rand"
	"slices"
	"strconv"
	"strings"
	"testing"

	"spinney/air"
	"spinney/api"
)

const least, greatest = math.MinInt, math.MaxInt

// made is an air of parcels of texts, with a blank between; a - is one of no bytes.
func made(t *testing.T, s string) *air.Air {
	t.Helper()
	a := air.New()
	for i, f := range strings.Fields(s) {
		p := air.Parcel{From: i % 12, To: (i + 1) % 12}
		if f != "-" {
			p.Bytes = []byte(f)
		}
		if e := a.Send(p); e != api.OK {
			t.Fatalf("Send: %d", e)
		}
	}
	return a
}

// is looks at the bytes of all parcels.
func is(t *testing.T, a *air.Air, s string) {
	t.Helper()
	var l []string
	for _, p := range a.Parcels() {
		if len(p.Bytes) == 0 {
			p.Bytes = []byte("-")
		}
		l = append(l, string(p.Bytes))
	}
	if got := strings.Join(l, " "); got != s || a.Len() != len(l) {
		t.Fatalf("there are %q, %d of them, want %q", got, a.Len(), s)
	}
}

// index is the i-th's number among n, by hand: uint64 has all ints without their sign.
func index(i, n int) int {
	_, rest := bits.Div64(0, uint64(i), uint64(n))
	return int(rest)
}

var numbers = []int{0, 1, 2, 3, 4, 5, 399, 400, 401, -1, -2, -3, least, least + 1, greatest, greatest - 1, 1 << 32}

func TestP22_1_Example(t *testing.T) {
	a := made(t, "a b c")
	if e := a.Turn(0, 3); e != api.OK {
		t.Errorf("Turn: %d", e)
	}
	if e := a.Turn(0, 3); e != api.ErrTwice {
		t.Errorf("Turn again: %d", e)
	}
	if p, e := a.Take(5); e != api.OK || string(p.Bytes) != "c" {
		t.Errorf("Take(5): %q, %d", p.Bytes, e)
	}
	is(t, a, "i b")
}

func TestP22_1_Send(t *testing.T) {
	a := air.New()
	is(t, a, "")
	for _, c := range []struct {
		from, to int
		want     api.Errno
	}{{0, 11, api.OK}, {11, 0, api.OK}, {3, 3, api.ErrRange}, {-1, 3, api.ErrRange}, {3, -1, api.ErrRange}, {12, 3, api.ErrRange}, {3, 12, api.ErrRange}, {least, 3, api.ErrRange}, {3, greatest, api.ErrRange}, {1 << 32, 3, api.ErrRange}} {
		n := a.Len()
		if e := a.Send(air.Parcel{From: c.from, To: c.to, Bytes: []byte("x")}); e != c.want || a.Len()-n != map[bool]int{true: 1}[c.want == api.OK] {
			t.Errorf("Send from %d to %d: %d, want %d", c.from, c.to, e, c.want)
		}
	}
	if l := a.Parcels(); l[0].From != 0 || l[0].To != 11 || l[1].From != 11 || l[1].To != 0 {
		t.Errorf("Parcels: %v", l)
	}
}

// An air that is full: of 400.
func TestP22_1_Full(t *testing.T) {
	a := air.New()
	var all []string
	if air.MaxAir != 400 {
		t.Errorf("an air of %d", air.MaxAir)
	}
	for i := range air.MaxAir {
		s := "p" + strconv.Itoa(i)
		if e := a.Send(air.Parcel{To: 1, Bytes: []byte(s)}); e != api.OK {
			t.Fatalf("Send %d: %d", i, e)
		}
		all = append(all, s)
	}
	for range 2 {
		if e := a.Send(air.Parcel{To: 1}); e != api.ErrFull {
			t.Errorf("Send: %d", e)
		}
		if e := a.Send(air.Parcel{To: 12}); e != api.ErrRange {
			t.Errorf("Send to no node: %d", e)
		}
		if e := a.Double(7); e != api.ErrFull {
			t.Errorf("Double: %d", e)
		}
		is(t, a, strings.Join(all, " "))
	}
	for _, i := range numbers {
		at := index(i, len(all))
		if p, e := a.Take(i); e != api.OK || string(p.Bytes) != all[at] || p.From != 0 || p.To != 1 {
			t.Fatalf("Take(%d): %q, want %q", i, p.Bytes, all[at])
		}
		all = slices.Delete(all, at, at+1)
		is(t, a, strings.Join(all, " "))
	}
	if e := a.Send(air.Parcel{To: 1, Bytes: []byte("q")}); e != api.OK {
		t.Errorf("Send where there is room again: %d", e)
	}
	is(t, a, strings.Join(append(all, "q"), " "))
}

func TestP22_1_OfNone(t *testing.T) {
	a := air.New()
	for _, i := range numbers {
		if p, e := a.Take(i); e != api.ErrNone || p.From != 0 || p.To != 0 || p.Bytes != nil {
			t.Errorf("Take(%d): %v, %d", i, p, e)
		}
		if e := a.Lose(i); e != api.ErrNone {
			t.Errorf("Lose(%d): %d", i, e)
		}
		if e := a.Double(i); e != api.ErrNone {
			t.Errorf("Double(%d): %d", i, e)
		}
		if e := a.Turn(i, i); e != api.ErrNone {
			t.Errorf("Turn(%d): %d", i, e)
		}
		is(t, a, "")
	}
}

// The i-th, of airs of one, two, three and more.
func TestP22_1_TheIth(t *testing.T) {
	for _, s := range []string{"a", "a b", "a b c", "a b c d e f g"} {
		l := strings.Fields(s)
		for _, i := range append(numbers, len(l)-1, len(l), len(l)+1) {
			at := index(i, len(l))
			rest := strings.Join(slices.Delete(slices.Clone(l), at, at+1), " ")
			a := made(t, s)
			if p, e := a.Take(i); e != api.OK || string(p.Bytes) != l[at] || p.From != at || p.To != at+1 {
				t.Errorf("of %s, Take(%d): %v, %d", s, i, p, e)
			}
			is(t, a, rest)
			a = made(t, s)
			if e := a.Lose(i); e != api.OK {
				t.Errorf("of %s, Lose(%d): %d", s, i, e)
			}
			is(t, a, rest)
			a = made(t, s)
			if e := a.Double(i); e != api.OK {
				t.Errorf("of %s, Double(%d): %d", s, i, e)
			}
			is(t, a, s+" "+l[at])
			if p := a.Parcels()[len(l)]; p.From != at || p.To != at+1 {
				t.Errorf("the double: %v", p)
			}
			a = made(t, s)
			if e := a.Turn(i, 1); e != api.OK {
				t.Errorf("of %s, Turn(%d): %d", s, i, e)
			}
			l := slices.Clone(l)
			l[at] = string([]byte{l[at][0] ^ 2})
			is(t, a, strings.Join(l, " "))
		}
	}
}

// Each bit of a parcel, and numbers beyond.
func TestP22_1_TurnEachBit(t *testing.T) {
	for _, s := range []string{"x", "xyz", "abcdefghij"} {
		for _, bit := range append(numbers, 7, 8, 8*len(s)-1, 8*len(s), 8*len(s)+1, 79, 80) {
			k := index(bit, 8*len(s))
			b := []byte(s)
			b[k/8] ^= 1 << (k % 8)
			a := made(t, s)
			if e := a.Turn(0, bit); e != api.OK || string(a.Parcels()[0].Bytes) != string(b) {
				t.Errorf("Turn of bit %d of %s: %q, want %q", bit, s, a.Parcels()[0].Bytes, b)
			}
			for again := range 8 * len(s) {
				if e := a.Turn(0, again); e != api.ErrTwice || string(a.Parcels()[0].Bytes) != string(b) {
					t.Errorf("Turn again: %d", e)
				}
			}
		}
	}
}

// A double of a parcel that was turned was turned; one that was doubled ahead of it wasn't.
func TestP22_1_TurnAndDouble(t *testing.T) {
	a := made(t, "a b")
	a.Double(0)
	is(t, a, "a b a")
	if e := a.Turn(0, 0); e != api.OK {
		t.Errorf("Turn: %d", e)
	}
	is(t, a, "` b a")
	a.Double(0)
	is(t, a, "` b a `")
	for i, want := range []api.Errno{api.ErrTwice, api.OK, api.OK, api.ErrTwice} {
		if e := a.Turn(i, 1); e != want {
			t.Errorf("Turn(%d): %d, want %d", i, e, want)
		}
	}
	is(t, a, "` ` c `")
	a.Take(0)
	if e := a.Turn(2, 1); e != api.ErrTwice {
		t.Errorf("Turn of the double alone: %d", e)
	}
	a = made(t, "- a")
	for range 2 {
		if e := a.Turn(0, 0); e != api.ErrRange {
			t.Errorf("Turn of no bytes: %d", e)
		}
	}
	if a.Double(0) != api.OK || a.Turn(2, 0) != api.ErrRange {
		t.Error("a double of no bytes")
	}
	is(t, a, "- a -")
	if p, e := a.Take(0); e != api.OK || len(p.Bytes) != 0 || p.From != 0 || p.To != 1 {
		t.Errorf("Take of no bytes: %v", p)
	}
}

// P22.2: whatever is done, a parcel that is taken was sent, byte by byte, but for one bit at most.
func TestP22_2_ByChance(t *testing.T) {
	r := rand.New(rand.NewSource(22))
	for range 100 {
		a := air.New()
		sent := map[string]air.Parcel{} // by the first four bytes, of which none is turned here
		n := 0
		for range 400 {
			i := r.Int()
			switch r.Intn(6) {
			case 0, 1:
				b := []byte(strconv.Itoa(1000 + n))
				for range r.Intn(20) {
					b = append(b, byte(r.Intn(256)))
				}
				p := air.Parcel{From: r.Intn(6), To: 6 + r.Intn(6), Bytes: b}
				if a.Send(p) == api.OK {
					sent[string(b[:4])] = air.Parcel{From: p.From, To: p.To, Bytes: slices.Clone(b)}
					n++
				}
			case 2:
				a.Double(i)
			case 3:
				if l := a.Parcels(); len(l) > 0 {
					if size := 8 * len(l[index(i, len(l))].Bytes); size > 32 {
						a.Turn(i, 32+r.Intn(size-32))
					}
				}
			case 4:
				if r.Intn(3) == 0 {
					a.Lose(i)
				}
			default:
				p, e := a.Take(i)
				if e != api.OK {
					continue
				}
				was, has := sent[string(p.Bytes[:4])]
				if !has || p.From != was.From || p.To != was.To || len(p.Bytes) != len(was.Bytes) {
					t.Fatalf("%v wasn't sent", p)
				}
				turned := 0
				for j := range p.Bytes {
					turned += bits.OnesCount8(p.Bytes[j] ^ was.Bytes[j])
				}
				if turned > 1 {
					t.Fatalf("%v has %d bits turned", p, turned)
				}
			}
		}
	}
}
