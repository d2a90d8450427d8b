package peg_test

import (
	"bytes"
	"math/rand"
	"slices"
	"strconv"
	"testing"

	"spinney/api"
	"spinney/peg"
	"spinney/slate"
)

// All calls end, and none panics.
func TestP9_AnyArguments(t *testing.T) {
	r := rand.New(rand.NewSource(9))
	for i := range 3000 {
		l := [2][]byte{make([]byte, 64), make([]byte, 64)}
		r.Read(l[i%2])
		if i%3 > 0 {
			l[i%2][0] = 0x4d
			clear(l[i%2][1 : 1+i%9])
		}
		if i%3 > 1 {
			l[i%2] = sealed(l[i%2][:60])
		}
		s := slateOf(t, l[0], l[1])
		p, e := peg.Open(s)
		if e != api.OK {
			if e != api.ErrRot || p != nil {
				t.Fatalf("Open: %v, %d", p, e)
			}
			continue
		}
		for _, n := range []int{0, 1, 50, 51, 1 << 12} {
			p.Turn()
			p.Bytes()
			p.Set(make([]byte, n))
		}
	}
	// A block that tells the greatest turns that eight bytes may have.
	for i, turn := range []uint64{1<<64 - 2, 1<<64 - 1, 1 << 63, 1<<63 - 1, 1<<63 + 2, 1<<62 + 1} {
		l := [2][]byte{noughts, noughts}
		l[i%2] = sealed(ahead(0x4d, turn, 1, []byte("a")))
		if p, e := peg.Open(slateOf(t, l[0], l[1])); e == api.OK {
			p.Turn()
			p.Bytes()
			p.Set(nil)
			p.Set(nil)
		}
	}
}

// Many calls, and great arguments, end soon, too.
func TestP9_ManyCalls(t *testing.T) {
	s := slate.New()
	p := opened(t, s)
	for turn := 1; turn <= 100000; turn++ {
		ok(t, p.Set([]byte{byte(turn), byte(turn >> 8), byte(turn >> 16)}))
	}
	is(t, opened(t, s), 100000, []byte{0xa0, 0x86, 1})
	if e := p.Set(make([]byte, 1<<24)); e != api.ErrRange {
		t.Errorf("Set of many bytes: %d", e)
	}
}

// R1: a turn has more than 32 bits.
func TestP10_R1_IntHas64Bits(t *testing.T) {
	if strconv.IntSize != 64 {
		t.Errorf("an int has %d bits", strconv.IntSize)
	}
	s := slateOf(t, handBlock(1<<32, []byte("a")), handBlock(5, nil))
	p := opened(t, s)
	is(t, p, 1<<32, []byte("a"))
	ok(t, p.Set([]byte("b")))
	is(t, opened(t, s), 1<<32+1, []byte("b"))
}

// R2: what is wrong in two ways is answered by the error that is named first, and takes no step.
func TestP10_R2_TheFirstError(t *testing.T) {
	for _, budget := range []int{0, 1} {
		s := slate.New()
		p := opened(t, s)
		ok(t, s.Arm(budget))
		if e := p.Set(some(51, 1)); e != api.ErrRange || s.Dead() || s.Pending() != 0 {
			t.Errorf("Set of too many bytes with a budget of %d: %d, dead %v", budget, e, s.Dead())
		}
		s = slateOf(t, handBlock(lastTurn, nil), noughts)
		p = opened(t, s)
		ok(t, s.Arm(budget))
		if e := p.Set(nil); e != api.ErrRange || s.Dead() || s.Pending() != 0 {
			t.Errorf("Set of the last turn with a budget of %d: %d, dead %v", budget, e, s.Dead())
		}
	}
	// Open takes no step, so it has nothing that a dead slate could refuse.
	s := slateOf(t, handBlock(2, []byte("a")), noughts)
	ok(t, s.Arm(0))
	s.Flush(0)
	is(t, opened(t, s), 2, []byte("a"))
	ok(t, s.Spoil(0, 0, 0))
	rotten(t, s, "on a dead slate")
}

// R3: beside an error stands the zero value.
func TestP10_R3_BesideAnError(t *testing.T) {
	for bit := range 1024 {
		s := slateOf(t, handBlock(2, []byte("a")), handBlock(1, []byte("b")))
		ok(t, s.Spoil(0, bit/512, bit%512))
		rotten(t, s, bit)
	}
}

// R4: a call that answers an error has changed nothing, but that Set may have written its block.
func TestP10_R4_NothingHasChanged(t *testing.T) {
	s := slateOf(t, handBlock(2, []byte("a")), handBlock(3, []byte("b")))
	p := opened(t, s)
	for range 3 {
		p.Set(some(51, 1))
		is(t, p, 3, []byte("b"))
		stands(t, s, handBlock(2, []byte("a")), handBlock(3, []byte("b")))
	}
	ok(t, s.Arm(0))
	for range 3 { // with the first step refused nothing was written
		if e := p.Set([]byte("c")); e != api.ErrDead {
			t.Errorf("Set: %d", e)
		}
		is(t, p, 3, []byte("b"))
		stands(t, s, handBlock(2, []byte("a")), handBlock(3, []byte("b")))
	}
	ok(t, s.Spoil(0, 0, 9))
	was := blocksOf(s)
	for range 3 {
		rotten(t, s, "spoilt")
		stands(t, s, was[0], was[1])
	}
}

// R5: a list that is nil means the same as one that is empty.
func TestP10_R5_EmptyAndNil(t *testing.T) {
	for _, b := range [][]byte{nil, {}, make([]byte, 0, 60), []byte("abc")[:0]} {
		s := slate.New()
		p := opened(t, s)
		ok(t, p.Set(b))
		is(t, p, 1, nil)
		stands(t, s, noughts, handBlock(1, nil))
		is(t, opened(t, s), 1, nil)
	}
}

// P10.4, and R6: what is handed in stays, with its spare room.
func TestP10_4_WhatIsHandedInStays(t *testing.T) {
	for _, size := range []int{0, 1, 49, 50, 51, 60, 64} {
		for _, room := range []int{0, 1, 4, 9, 64, 500} {
			b := some(size+room, 3)
			s := slate.New()
			p := opened(t, s)
			for range 3 {
				p.Set(b[:size])
				x := p.Bytes()
				clear(x[:cap(x)])
				opened(t, s).Set(nil)
			}
			if !bytes.Equal(b, some(size+room, 3)) {
				t.Fatalf("%d bytes, %d of spare room: what was handed in has changed", size, room)
			}
		}
	}
}

// P10.4, and R6: what was set may be changed behind the call.
func TestP10_4_NothingHandedInIsKept(t *testing.T) {
	for _, size := range []int{1, 2, 50} {
		s := slate.New()
		p := opened(t, s)
		b := append(make([]byte, 0, 200), some(size, 1)...)
		ok(t, p.Set(b))
		clear(b[:cap(b)])
		is(t, p, 1, some(size, 1))
		stands(t, s, noughts, handBlock(1, some(size, 1)))
		copy(b, some(size, 2))
		ok(t, p.Set(b))
		copy(b[:cap(b)], bytes.Repeat([]byte{9}, 200))
		is(t, p, 2, some(size, 2))
		is(t, opened(t, s.Crash(nil)), 2, some(size, 2))
	}
}

// P10.4, and R6: answers are new memory: what was told may be changed behind the call.
func TestP10_4_AnswersAreNewMemory(t *testing.T) {
	for _, size := range []int{1, 2, 50} {
		s := slate.New()
		p := opened(t, s)
		ok(t, p.Set(some(size, 1)))
		for _, q := range []*peg.Peg{p, opened(t, s), opened(t, s.Crash(nil))} {
			b, again := q.Bytes(), q.Bytes()
			b = append(b[:cap(b)], 1)
			copy(b, bytes.Repeat([]byte{9}, len(b)))
			first := q.Bytes()
			clear(first[:cap(first)])
			if !bytes.Equal(again, some(size, 1)) {
				t.Error("two answers share memory")
			}
			is(t, q, 1, some(size, 1))
		}
		stands(t, s, noughts, handBlock(1, some(size, 1)))
		// What was told stays as it was, when the peg is set again.
		was := p.Bytes()
		ok(t, p.Set(some(size, 2)), p.Set(some(size, 3)))
		if !bytes.Equal(was, some(size, 1)) {
			t.Error("what was told has changed with the peg")
		}
	}
}

// P10.4: the slate is kept: what is set stands on just that.
func TestP10_4_TheSlateIsKept(t *testing.T) {
	s := slate.New()
	p := opened(t, s)
	x := s.Crash(nil)
	q := opened(t, x)
	ok(t, p.Set([]byte("a")), q.Set([]byte("b")), q.Set([]byte("c")))
	stands(t, s, noughts, handBlock(1, []byte("a")))
	stands(t, x, handBlock(2, []byte("c")), handBlock(1, []byte("b")))
	is(t, p, 1, []byte("a"))
	is(t, q, 2, []byte("c"))
}

// R7: a peg may have anything that is at most 50 bytes, on any slate.
func TestP10_R7_AnyBytes(t *testing.T) {
	s := slate.New()
	p := opened(t, s)
	for c := range 256 {
		b := bytes.Repeat([]byte{byte(c)}, c%51)
		ok(t, p.Set(b))
		is(t, p, c+1, b)
		is(t, opened(t, s), c+1, b)
	}
}

// R8: what a call answers hangs on what stands on the slate, and on what the peg keeps alone.
func TestP10_R8_TheSameAgain(t *testing.T) {
	x, y := slate.New(), slate.New()
	p, q := opened(t, x), opened(t, y)
	for turn := range 200 {
		b := some(turn%60, turn)
		if turn%7 == 0 {
			ok(t, x.Arm(turn%3), y.Arm(turn%3))
		} else {
			ok(t, x.Arm(9), y.Arm(9))
		}
		e := p.Set(b)
		opened(t, slateOf(t, handBlock(4, nil), noughts)).Set(some(9, turn)) // another one between
		f := q.Set(slices.Concat(b, nil))
		if e != f {
			t.Fatalf("two pegs that do the same: %d, %d", e, f)
		}
		is(t, q, p.Turn(), p.Bytes())
		a := blocksOf(x)
		stands(t, y, a[0], a[1])
	}
}
