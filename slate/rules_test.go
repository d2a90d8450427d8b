package slate_test

import (
	"bytes"
	"math/rand"
	"slices"
	"strconv"
	"testing"

	"spinney/api"
	"spinney/slate"
)

// numbers: whatever a file, a block, a bit or a budget may be told as.
func numbers() []int {
	return []int{least, least + 1, -1 << 32, -4097, -4096, -513, -512, -2, -1, 0, 1, 2, 63, 511, 512, 1023, 1024, 4095, 4096, 1 << 30, 1 << 31, 1 << 32, 1<<32 + 1, 1 << 40, 1<<40 + 1, greatest - 1, greatest}
}

// All calls end, and none panics.
func TestP9_AnyArguments(t *testing.T) {
	all := []*slate.Slate{slate.New(), slate.New(), slate.New()}
	ok(t, all[1].Write(1, 1, []byte("a")), all[1].Flush(1), all[1].Write(1, 1, []byte("b")), all[2].Arm(0))
	for _, s := range all {
		for _, m := range numbers() {
			s.Blocks(m)
			for _, n := range numbers() {
				s.Read(m, n)
				s.Write(m, n, filled(n&127, 1))
				for _, bit := range numbers() {
					s.Spoil(m, n, bit)
				}
			}
			s.Flush(m)
			s.Crash(make([]bool, m&8191))
			s.Remove(m)
			s.Arm(m)
			s.Write(m, 5, nil)
			s.Crash(nil).Crash([]bool{true})
			s.Files()
			s.Pending()
			s.Dead()
		}
		s.Write(0, 0, nil)
		s.Write(0, 0, make([]byte, 1<<24))
	}
}

// Many calls end soon, too.
func TestP9_ManyCalls(t *testing.T) {
	s := slate.New()
	for i := range 1 << 17 {
		ok(t, s.Write(i%40, i/40%1024, []byte{byte(i), byte(i >> 8), byte(i >> 16)}))
	}
	if s.Pending() != 1<<17 {
		t.Errorf("%d pending", s.Pending())
	}
	for i := 1<<17 - 40*1024; i < 1<<17; i++ {
		b, e := s.Read(i%40, i/40%1024)
		if e != api.OK || b[0] != byte(i) || b[1] != byte(i>>8) || b[2] != byte(i>>16) {
			t.Fatalf("%d: % x, %d", i, b[:3], e)
		}
	}
	x := s.Crash(slices.Repeat([]bool{true}, 1<<17))
	for file := range 4096 {
		if file < 40 && x.Blocks(file) != 1024 || file >= 40 && x.Blocks(file) != 0 {
			t.Fatalf("%d blocks of file %d", x.Blocks(file), file)
		}
		ok(t, x.Remove(file), s.Flush(file))
	}
	if len(x.Files()) != 0 || len(s.Files()) != 40 || s.Pending() != 0 {
		t.Errorf("%d files, %d files, %d pending", len(x.Files()), len(s.Files()), s.Pending())
	}
}

// R1.
func TestP10_R1_IntHas64Bits(t *testing.T) {
	if strconv.IntSize != 64 {
		t.Errorf("an int has %d bits", strconv.IntSize)
	}
	s := slate.New()
	ok(t, s.Arm(1<<32), s.Write(1, 1, nil)) // of 32 bits that were 0
	for _, n := range []int{1 << 32, 1<<32 + 1, -1<<32 + 1} {
		if s.Write(n, 1, nil) != api.ErrRange || s.Write(1, n, nil) != api.ErrRange || s.Spoil(1, 1, n) != api.ErrRange {
			t.Errorf("%d: it may be", n)
		}
	}
}

// R2: what is wrong in two ways is answered by the error that is named first; what is out of range takes no step.
func TestP10_R2_TheFirstError(t *testing.T) {
	for _, dead := range []bool{false, true} {
		p := newPair()
		p.write(t, 1, 0, []byte("a"))
		p.arm(t, 0)
		if dead {
			p.flush(t, 1)
		}
		for i, e := range []api.Errno{p.write(t, -1, 0, nil), p.write(t, 4096, 0, nil), p.write(t, 1, -1, nil), p.write(t, 1, 1024, nil), p.write(t, 1, 0, filled(65, 1)), p.flush(t, -1), p.flush(t, 4096), p.remove(t, -1), p.remove(t, 4096), p.spoil(t, 1, 0, 512), p.arm(t, -1), p.arm(t, 1<<40+1)} {
			if e != api.ErrRange || p.s.Dead() != dead {
				t.Errorf("call %d: %d, dead %v", i, e, p.s.Dead())
			}
		}
		for i, e := range []api.Errno{p.write(t, 1, 0, nil), p.flush(t, 1), p.remove(t, 1)} {
			if e != api.ErrDead || !p.s.Dead() {
				t.Errorf("call %d: %d, dead %v", i, e, p.s.Dead())
			}
		}
	}
	p := newPair()
	p.arm(t, 1)
	p.write(t, 4096, 0, nil)
	p.flush(t, -1)
	p.remove(t, 4096)
	ok(t, p.write(t, 1, 0, nil)) // the budget's one step is still there
}

// R3: beside an error stands the zero value.
func TestP10_R3_BesideAnError(t *testing.T) {
	s := slate.New()
	ok(t, s.Write(0, 0, []byte("a")))
	failed := 0
	for _, m := range numbers() {
		for _, n := range numbers() {
			b, e := s.Read(m, n)
			if bad(m, n) != (e == api.ErrRange) || e == api.ErrRange && len(b) != 0 || e != api.ErrRange && (e != api.OK || len(b) != 64) {
				t.Errorf("Read(%d, %d): % x, %d", m, n, b, e)
			}
			if e != api.OK {
				failed++
			}
		}
	}
	if failed < 100 {
		t.Errorf("only %d errors", failed)
	}
}

// R4: a call that answers an error has changed nothing, but that a refused step makes the slate dead.
func TestP10_R4_NothingHasChanged(t *testing.T) {
	p := newPair()
	p.write(t, 1, 0, []byte("a"))
	p.write(t, 2, 3, []byte("b"))
	p.flush(t, 1)
	p.write(t, 1, 0, []byte("c"))
	p.arm(t, 0)
	for range 3 { // each is held against the model, as is what comes of a crash
		p.write(t, 1, 0, []byte("d"))
		p.write(t, 3, 0, []byte("d"))
		p.flush(t, 1)
		p.flush(t, 2)
		p.remove(t, 1)
		p.remove(t, 2)
		p.write(t, 1, 0, filled(65, 1))
		p.spoil(t, 1, 0, -1)
		p.arm(t, -1)
		for _, keep := range [][]bool{nil, {true}, {false, true}, {true, true}} {
			p.crash(t, keep...)
		}
	}
	has(t, p.s, []int{1, 2}, 1, 2)
	is(t, p.s, 1, 0, []byte("c"))
	is(t, p.crash(t).s, 1, 0, []byte("a"))
}

// R5: a list that is nil means the same as one that is empty.
func TestP10_R5_EmptyAndNil(t *testing.T) {
	for _, b := range [][]byte{nil, {}, make([]byte, 0, 99), []byte("abc")[:0]} {
		p := newPair()
		p.write(t, 1, 0, []byte("abc"))
		ok(t, p.write(t, 1, 0, b))
		is(t, p.s, 1, 0, nil)
		has(t, p.s, []int{1}, 1, 2)
		for _, keep := range [][]bool{nil, {}, make([]bool, 0, 9), slices.Repeat([]bool{true}, 9)[:0]} {
			has(t, p.crash(t, keep...).s, nil, 0, 0)
		}
	}
}

// P9.3, and R6: what is handed in stays, with its spare room.
func TestP9_3_WhatIsHandedInStays(t *testing.T) {
	for _, size := range []int{0, 1, 63, 64, 65} {
		for _, room := range []int{0, 1, 64, 500} {
			b := filled(size+room, 7)
			keep := slices.Repeat([]bool{true, false}, size+room)
			s := slate.New()
			s.Write(1, 0, b[:size])
			s.Write(1, 1, b[:size])
			x := s.Crash(keep[:size])
			for _, s := range []*slate.Slate{s, x} {
				s.Spoil(1, 0, 0)
				s.Write(1, 0, []byte("z"))
				s.Flush(1)
				y, _ := s.Read(1, 1)
				clear(y[:cap(y)])
			}
			if !bytes.Equal(b, filled(size+room, 7)) || !slices.Equal(keep, slices.Repeat([]bool{true, false}, size+room)) {
				t.Fatalf("%d bytes, %d of spare room: what was handed in has changed", size, room)
			}
		}
	}
}

// P9.3, and R6: what was written may be changed behind the call.
func TestP9_3_NothingHandedInIsKept(t *testing.T) {
	p := newPair()
	b := append(make([]byte, 0, 200), "abc"...)
	p.write(t, 1, 0, b)
	clear(b[:cap(b)])
	is(t, p.s, 1, 0, []byte("abc"))
	look(t, p.s, p.m, "a change of what was written")
	copy(b[:64], filled(64, 9))
	p.write(t, 1, 1, b[:64])
	clear(b[:cap(b)])
	p.flush(t, 1)
	is(t, p.s, 1, 1, filled(64, 9))
	p.write(t, 1, 2, []byte("d"))
	p.write(t, 1, 3, []byte("e"))
	keep := []bool{true, false}
	x := p.s.Crash(keep)
	keep[0], keep[1] = false, true
	is(t, x, 1, 2, []byte("d"))
	is(t, x, 1, 3, nil)
}

// P9.3, and R6: answers are new memory: what was read may be changed behind the call.
func TestP9_3_AnswersAreNewMemory(t *testing.T) {
	p := newPair()
	p.write(t, 1, 0, []byte("abc"))
	p.write(t, 2, 1, []byte("d"))
	p.flush(t, 1)
	for _, x := range []*pair{p, p.crash(t, true)} {
		for _, at := range [][2]int{{1, 0}, {2, 1}, {1, 5}, {3, 0}} { // flushed, pending, never written
			b, _ := x.s.Read(at[0], at[1])
			c, _ := x.s.Read(at[0], at[1])
			want := bytes.Clone(c)
			copy(b[:cap(b)], filled(cap(b), 255))
			if !bytes.Equal(c, want) {
				t.Errorf("block %v: two answers share memory", at)
			}
			look(t, x.s, x.m, "a change of what was read")
		}
		l, again := x.s.Files(), x.s.Files()
		l = append(l[:0], slices.Repeat([]int{9}, cap(l))...)
		if !slices.Equal(again, []int{1, 2}) {
			t.Error("two lists of files share memory")
		}
		look(t, x.s, x.m, "a change of the files", l)
		is(t, x.s.Crash([]bool{true}), 1, 0, []byte("abc"))
	}
}

// P9.3, and R6: a slate and what comes of its crash are changed each of itself alone.
func TestP9_3_SlatesShareNothing(t *testing.T) {
	r := rand.New(rand.NewSource(93))
	for range 40 {
		p := newPair()
		for range 20 {
			p, _ = p.act(t, r)
		}
		all := []*pair{p, p.crash(t), p.crash(t, true, true, false, true), p.crash(t).crash(t)}
		for range 40 {
			i := r.Intn(len(all))
			all[i], _ = all[i].act(t, r)
			for _, x := range all {
				look(t, x.s, x.m, "a change of another slate")
			}
		}
	}
}

// R7: all that a slate may have: each file, and each block.
func TestP10_R7_Limits(t *testing.T) {
	s := slate.New()
	var all []int
	for file := range 4096 {
		ok(t, s.Write(file, file%1024, []byte{byte(file), byte(file >> 8)}), s.Write(file, 1023-file%1024, []byte{1}))
		all = append(all, file)
	}
	for range 2 {
		if !slices.Equal(s.Files(), all) {
			t.Errorf("%d files", len(s.Files()))
		}
		for file := range 4096 {
			is(t, s, file, file%1024, []byte{byte(file), byte(file >> 8)})
			is(t, s, file, 1023-file%1024, []byte{1})
			if s.Blocks(file) != max(file%1024, 1023-file%1024)+1 {
				t.Errorf("%d blocks of file %d", s.Blocks(file), file)
			}
		}
		s = s.Crash(slices.Repeat([]bool{true}, 8192))
	}
}

// R8: what a call answers hangs on what the slate keeps alone: two slates that do the same are the same, whatever others do between.
func TestP10_R8_TheSameAgain(t *testing.T) {
	for seed := range int64(20) {
		x, y := newPair(), newPair()
		r, again, other := rand.New(rand.NewSource(seed)), rand.New(rand.NewSource(seed)), rand.New(rand.NewSource(seed+1000))
		z := newPair()
		for range 60 {
			var e, f api.Errno
			x, e = x.act(t, r)
			z, _ = z.act(t, other)
			y, f = y.act(t, again)
			if d := differ(x.s, y.m); d != "" || e != f {
				t.Fatalf("two slates that did the same: %s; %d, %d", d, e, f)
			}
		}
	}
}
