package slate_test

import (
	"bytes"
	"math"
	"math/rand"
	"slices"
	"testing"

	"spinney/api"
	"spinney/slate"
)

const least, greatest = math.MinInt, math.MaxInt

// block is b, and noughts behind.
func block(b []byte) []byte { return append(bytes.Clone(b), make([]byte, 64-len(b))...) }

// is fails, if a block isn't b, and noughts behind.
func is(t *testing.T, s *slate.Slate, file, at int, b []byte) {
	t.Helper()
	if x, e := s.Read(file, at); e != api.OK || !bytes.Equal(x, block(b)) {
		t.Errorf("block %d of file %d: % x, %d, want % x", at, file, x, e, b)
	}
}

// has fails, if a slate hasn't just these files, file 1 so many blocks, and so many writes pending.
func has(t *testing.T, s *slate.Slate, files []int, blocks, pending int) {
	t.Helper()
	if !slices.Equal(s.Files(), files) || s.Blocks(1) != blocks || s.Pending() != pending {
		t.Errorf("files %v, %d blocks of file 1, %d pending; want %v, %d, %d", s.Files(), s.Blocks(1), s.Pending(), files, blocks, pending)
	}
}

// ok fails, if one of these errors is one.
func ok(t *testing.T, all ...api.Errno) {
	t.Helper()
	for i, e := range all {
		if e != api.OK {
			t.Fatalf("call %d: %d", i, e)
		}
	}
}

// The chapter's example.
func TestP9_1_Example(t *testing.T) {
	s, a, b := slate.New(), []byte("a"), []byte("b")
	ok(t, s.Write(1, 0, a), s.Flush(1), s.Write(1, 0, b))
	is(t, s, 1, 0, b)
	is(t, s.Crash(nil), 1, 0, a)
	is(t, s.Crash([]bool{false}), 1, 0, a)
	is(t, s.Crash([]bool{true}), 1, 0, b)
}

func TestP9_1_ANewSlate(t *testing.T) {
	s := slate.New()
	has(t, s, nil, 0, 0)
	if s.Dead() {
		t.Error("a new slate is dead")
	}
	for _, file := range []int{0, 1, 4095} {
		for _, at := range []int{0, 1, 1023} {
			is(t, s, file, at, nil)
		}
	}
	has(t, s, nil, 0, 0) // a block isn't there for being read
	for range 1000 {     // without a budget there are as many steps as one pleases
		ok(t, s.Write(1, 0, nil), s.Flush(1), s.Remove(1))
	}
	look(t, s, newModel(), "steps")
}

func TestP9_1_WriteAndRead(t *testing.T) {
	p := newPair()
	for i, n := range []int{0, 1, 2, 63, 64} {
		for _, file := range []int{0, 1, 4095} {
			for _, at := range []int{0, 1, 1023} {
				p.write(t, file, at, filled(n, byte(1+i)))
				is(t, p.s, file, at, filled(n, byte(1+i)))
			}
		}
	}
	// What is shorter leaves nothing of what stood there.
	p.write(t, 1, 0, filled(64, 9))
	p.write(t, 1, 0, filled(2, 7))
	is(t, p.s, 1, 0, []byte{7, 7})
	p.write(t, 1, 0, nil)
	is(t, p.s, 1, 0, nil)
	p.flush(t, 1)
	is(t, p.s, 1, 0, nil)
}

// What is written to one block is nothing to any other one.
func TestP9_1_EachBlockOfItself(t *testing.T) {
	s := slate.New()
	for file := range 70 {
		for at := range 70 {
			ok(t, s.Write(file*59, at*14, []byte{byte(file), byte(at), 1}))
		}
	}
	for round := range 2 {
		for file := range 70 {
			for at := range 70 {
				is(t, s, file*59, at*14, []byte{byte(file), byte(at), 1})
			}
			is(t, s, file*59, 1023, nil)
			is(t, s, file*59+1, 0, nil)
		}
		if round == 0 {
			s = s.Crash(slices.Repeat([]bool{true}, 4900))
		}
	}
	if n := len(s.Files()); n != 70 || s.Blocks(69*59) != 69*14+1 || s.Pending() != 0 {
		t.Errorf("%d files, %d blocks, %d pending", n, s.Blocks(69*59), s.Pending())
	}
}

func TestP9_1_WrongNumbers(t *testing.T) {
	p := newPair()
	p.write(t, 1, 3, []byte("abc"))
	p.flush(t, 1)
	p.write(t, 1, 5, []byte("de"))
	for _, n := range []int{least, -4096, -1, 4096, 4097, 1 << 16, 1 << 32, 1<<32 + 1, greatest} {
		if b, e := p.s.Read(n, 3); e != api.ErrRange || len(b) != 0 {
			t.Errorf("Read of file %d: % x, %d", n, b, e)
		}
		for _, e := range []api.Errno{p.write(t, n, 3, nil), p.flush(t, n), p.remove(t, n), p.spoil(t, n, 3, 0)} {
			if e != api.ErrRange {
				t.Errorf("file %d: %d", n, e)
			}
		}
		if p.s.Blocks(n) != 0 {
			t.Errorf("%d blocks of file %d", p.s.Blocks(n), n)
		}
	}
	for _, n := range []int{least, -1, 1024, 1025, 4095, 1 << 32, 1<<32 + 3, greatest} {
		if b, e := p.s.Read(1, n); e != api.ErrRange || len(b) != 0 {
			t.Errorf("Read of block %d: % x, %d", n, b, e)
		}
		for _, e := range []api.Errno{p.write(t, 1, n, nil), p.spoil(t, 1, n, 0)} {
			if e != api.ErrRange {
				t.Errorf("block %d: %d", n, e)
			}
		}
	}
	for _, n := range []int{65, 66, 128, 1 << 20} {
		if e := p.write(t, 1, 3, filled(n, 1)); e != api.ErrRange {
			t.Errorf("%d bytes: %d", n, e)
		}
	}
	for _, n := range []int{least, -512, -1, 512, 513, 1024, 1 << 32, greatest} {
		if e := p.spoil(t, 1, 3, n); e != api.ErrRange {
			t.Errorf("bit %d: %d", n, e)
		}
	}
	for _, n := range []int{least, -1, 1<<40 + 1, 1 << 41, greatest} {
		if e := p.arm(t, n); e != api.ErrRange {
			t.Errorf("a budget of %d: %d", n, e)
		}
	}
	for range 20 { // it still has no budget
		ok(t, p.flush(t, 2))
	}
}

// P9.1: what is pending, and in which order.
func TestP9_1_Pending(t *testing.T) {
	p := newPair()
	a, b, c, d := []byte("a"), []byte("b"), []byte("c"), []byte("d")
	p.write(t, 1, 0, a)
	p.write(t, 2, 0, b)
	p.write(t, 1, 0, c)
	p.write(t, 1, 1, d)
	has(t, p.s, []int{1, 2}, 2, 4)
	for n := range 16 { // each kept or lost of itself
		keep := []bool{n&1 > 0, n&2 > 0, n&4 > 0, n&8 > 0}
		x := p.crash(t, keep...)
		want := [][]byte{nil, a, c, c}[n&1+n&4/2]
		is(t, x.s, 1, 0, want)
		is(t, x.s, 2, 0, [][]byte{nil, b}[n&2/2])
		is(t, x.s, 1, 1, [][]byte{nil, d}[n&8/8])
	}
	p.flush(t, 1)
	has(t, p.s, []int{1, 2}, 2, 1)
	is(t, p.crash(t).s, 1, 0, c)
	is(t, p.crash(t).s, 2, 0, nil)
	is(t, p.crash(t, true).s, 2, 0, b)
	p.write(t, 1, 0, d)
	p.write(t, 2, 0, d)
	is(t, p.crash(t, false, true).s, 1, 0, d)
	is(t, p.crash(t, false, true).s, 2, 0, nil)
	is(t, p.crash(t, true, false, false).s, 2, 0, b)
	is(t, p.crash(t, true, false, true).s, 2, 0, d)
	p.flush(t, 3) // another one's flush is nothing to them
	has(t, p.s, []int{1, 2}, 2, 3)
}

// P9.1: a block that was written again as it was is pending all the same.
func TestP9_1_WrittenAgainAsItWas(t *testing.T) {
	p := newPair()
	p.write(t, 1, 0, []byte("a"))
	p.flush(t, 1)
	p.write(t, 1, 0, []byte("a"))
	p.write(t, 1, 0, []byte("a"))
	has(t, p.s, []int{1}, 1, 2)
	p.spoil(t, 1, 0, 0)
	is(t, p.crash(t).s, 1, 0, []byte{'a' ^ 1})
	is(t, p.crash(t, false, true).s, 1, 0, []byte("a"))
}

func TestP9_1_CrashOfOtherLengths(t *testing.T) {
	p := newPair()
	p.write(t, 1, 0, []byte("a"))
	p.write(t, 1, 1, []byte("b"))
	p.write(t, 2, 0, []byte("c"))
	for _, keep := range [][]bool{nil, {}, {true}, {false, true}, {true, true, true}, {true, true, true, true, true}, {false, false, false, true}, slices.Repeat([]bool{true}, 5000), slices.Repeat([]bool{false}, 5000)} {
		x := p.crash(t, keep...)
		has(t, x.s, x.m.files(), x.m.blocks(1), 0)
		if x.s.Dead() {
			t.Error("a slate that comes of a crash is dead")
		}
	}
	x := p.crash(t, true, false, true)
	x.write(t, 1, 1, []byte("d"))
	y := x.crash(t, true).crash(t, false).crash(t)
	is(t, y.s, 1, 0, []byte("a"))
	is(t, y.s, 1, 1, []byte("d"))
	is(t, x.crash(t).s, 1, 1, nil)
	is(t, p.s, 1, 1, []byte("b"))
	has(t, p.s, []int{1, 2}, 2, 3)
}

// P9.1: a crash takes the budget, and what it was that was dead; the slate that was crashed has them still.
func TestP9_1_CrashOfADeadSlate(t *testing.T) {
	p := newPair()
	p.arm(t, 1)
	p.write(t, 1, 0, []byte("a"))
	x := p.crash(t, true)
	p.write(t, 1, 1, []byte("b"))
	y := p.crash(t, true, true)
	if !p.s.Dead() || x.s.Dead() || y.s.Dead() {
		t.Error("dead, or not")
	}
	for range 20 {
		ok(t, x.write(t, 1, 1, nil), y.flush(t, 1))
	}
	has(t, y.s, []int{1}, 1, 0)
	if e := p.flush(t, 1); e != api.ErrDead {
		t.Errorf("Flush of the slate that was crashed: %d", e)
	}
}

// steps are the three that a step may be.
func steps(t *testing.T, p *pair) []func() api.Errno {
	return []func() api.Errno{func() api.Errno { return p.write(t, 1, 0, []byte("s")) }, func() api.Errno { return p.flush(t, 1) }, func() api.Errno { return p.remove(t, 1) }, func() api.Errno { return p.flush(t, 9) }, func() api.Errno { return p.remove(t, 9) }, func() api.Errno { return p.write(t, 4095, 1023, nil) }}
}

func TestP9_1_Budget(t *testing.T) {
	for budget := range 5 {
		for i := range 6 {
			p := newPair()
			p.write(t, 1, 0, []byte("a"))
			p.flush(t, 1)
			p.write(t, 1, 0, []byte("b"))
			p.arm(t, budget)
			if p.s.Dead() {
				t.Error("dead ahead of all steps")
			}
			for range budget {
				ok(t, steps(t, p)[i]())
			}
			if p.s.Dead() {
				t.Error("dead, with no step refused")
			}
			for j := range 6 {
				if e := steps(t, p)[(i+j)%6](); e != api.ErrDead || !p.s.Dead() {
					t.Errorf("a step behind a budget of %d: %d, %v", budget, e, p.s.Dead())
				}
			}
			// Armed again it isn't dead, and has just as many steps.
			ok(t, p.arm(t, 1), steps(t, p)[i]())
			if e := steps(t, p)[i](); e != api.ErrDead || !p.s.Dead() {
				t.Errorf("a step behind the budget of one that was armed again: %d", e)
			}
			ok(t, p.arm(t, 0))
			if p.s.Dead() {
				t.Error("dead with the budget 0, with no step refused")
			}
			ok(t, p.arm(t, 1<<40))
			for range 20 {
				ok(t, steps(t, p)[i]())
			}
		}
	}
}

// P9.1: a budget that isn't used up gives way to another one, and isn't added to it.
func TestP9_1_ArmedTwice(t *testing.T) {
	p := newPair()
	ok(t, p.arm(t, 5), p.flush(t, 1), p.arm(t, 2), p.flush(t, 1), p.flush(t, 1))
	if e := p.flush(t, 1); e != api.ErrDead {
		t.Errorf("a third step: %d", e)
	}
	ok(t, p.arm(t, 0), p.arm(t, 1), p.flush(t, 1))
}

// P9.1: what is no step costs none, and is done with a slate that is dead, too.
func TestP9_1_NoSteps(t *testing.T) {
	for _, dead := range []bool{false, true} {
		p := newPair()
		p.write(t, 1, 0, []byte("a"))
		p.arm(t, 0)
		if dead && p.flush(t, 1) != api.ErrDead {
			t.Error("Flush with the budget 0")
		}
		for range 3 {
			ok(t, p.spoil(t, 1, 1, 3), p.spoil(t, 2, 0, 0))
			p.crash(t, true)
			if p.s.Dead() != dead {
				t.Error("what is no step was refused for the budget")
			}
		}
		is(t, p.s, 1, 0, []byte("a"))
		is(t, p.s, 1, 1, []byte{8})
		p = newPair()
		p.arm(t, 3)
		ok(t, p.spoil(t, 1, 1, 3), p.write(t, 1, 0, nil), p.spoil(t, 1, 0, 3), p.flush(t, 1), p.spoil(t, 1, 0, 3), p.remove(t, 1))
		if e := p.remove(t, 1); e != api.ErrDead {
			t.Errorf("a fourth step: %d", e)
		}
	}
}

func TestP9_1_Remove(t *testing.T) {
	p := newPair()
	p.write(t, 1, 0, []byte("a"))
	p.write(t, 1, 7, []byte("b"))
	p.write(t, 2, 0, []byte("c"))
	p.flush(t, 1)
	p.flush(t, 2)
	p.write(t, 1, 9, []byte("d"))
	p.write(t, 2, 0, []byte("e"))
	p.write(t, 1, 0, []byte("f"))
	has(t, p.s, []int{1, 2}, 10, 3)
	p.remove(t, 1)
	has(t, p.s, []int{2}, 0, 1)
	is(t, p.s, 1, 0, nil)
	is(t, p.s, 1, 7, nil)
	for _, keep := range [][]bool{nil, {true}, {true, true, true}} { // kept at once, with all that was pending
		x := p.crash(t, keep...)
		has(t, x.s, []int{2}, 0, 0)
		is(t, x.s, 1, 0, nil)
		is(t, x.s, 1, 9, nil)
	}
	is(t, p.crash(t, true).s, 2, 0, []byte("e"))
	is(t, p.crash(t).s, 2, 0, []byte("c"))
	p.write(t, 1, 2, []byte("g")) // again
	has(t, p.s, []int{1, 2}, 3, 2)
	x := p.crash(t, true)
	has(t, x.s, []int{2}, 0, 0)
	p.flush(t, 1)
	has(t, p.crash(t).s, []int{1, 2}, 3, 0)
	is(t, p.s, 1, 7, nil)
	p.remove(t, 1)
	p.remove(t, 1)
	p.remove(t, 4095)
	p.remove(t, 2)
	has(t, p.s, nil, 0, 0)
	p.flush(t, 1)
	has(t, p.s, nil, 0, 0)
}

func TestP9_1_BlocksAndFiles(t *testing.T) {
	p := newPair()
	for _, file := range []int{4095, 7, 0, 300, 1} {
		p.write(t, file, file%2*1023, nil) // no bytes are written, too
	}
	if l := p.s.Files(); !slices.Equal(l, []int{0, 1, 7, 300, 4095}) {
		t.Errorf("files %v", l)
	}
	for file, n := range map[int]int{0: 1, 1: 1024, 7: 1024, 300: 1, 4095: 1024, 2: 0, 4094: 0} {
		if p.s.Blocks(file) != n {
			t.Errorf("%d blocks of file %d", p.s.Blocks(file), file)
		}
	}
	// Behind a write that a crash lost, and one that it kept.
	p = newPair()
	p.write(t, 1, 3, []byte("a"))
	p.flush(t, 1)
	p.write(t, 1, 8, []byte("b"))
	p.write(t, 1, 5, []byte("c"))
	p.write(t, 2, 0, []byte("d"))
	has(t, p.s, []int{1, 2}, 9, 3)
	has(t, p.crash(t).s, []int{1}, 4, 0)
	has(t, p.crash(t, false, true).s, []int{1}, 6, 0)
	has(t, p.crash(t, true, true, true).s, []int{1, 2}, 9, 0)
	// A block that is noughts again was written.
	p = newPair()
	p.write(t, 1, 3, []byte("a"))
	p.write(t, 1, 3, nil)
	p.flush(t, 1)
	has(t, p.crash(t).s, []int{1}, 4, 0)
}

func TestP9_1_Spoil(t *testing.T) {
	for bit := range 512 { // each bit, and back again
		p := newPair()
		b := filled(64, 0x5a)
		ok(t, p.s.Write(1, 2, b), p.m.write(1, 2, b), p.s.Flush(1), p.m.end(1, true))
		want := bytes.Clone(b)
		want[bit/8] ^= []byte{1, 2, 4, 8, 16, 32, 64, 128}[bit%8]
		ok(t, p.s.Spoil(1, 2, bit))
		is(t, p.s, 1, 2, want)
		is(t, p.s.Crash(nil), 1, 2, want)
		ok(t, p.s.Spoil(1, 2, bit))
		is(t, p.s, 1, 2, b)
	}
	p := newPair()
	for _, bit := range []int{0, 511, 9} {
		p.spoil(t, 0, 1023, bit)
	}
	is(t, p.s, 0, 1023, append([]byte{1, 2}, append(make([]byte, 61), 128)...))
	if p.s.Blocks(0) != 1024 || p.s.Pending() != 0 || !slices.Equal(p.s.Files(), []int{0}) {
		t.Error("a block that was never written, spoilt, doesn't count as written")
	}
}

// P9.1: a block that was never written counts as written where a bit of it was spoilt, be it turned back, and behind a crash.
func TestP9_1_SpoiltAndBack(t *testing.T) {
	p := newPair()
	p.spoil(t, 1, 4, 77)
	p.spoil(t, 1, 4, 77)
	is(t, p.s, 1, 4, nil)
	has(t, p.s, []int{1}, 5, 0)
	has(t, p.crash(t).s, []int{1}, 5, 0)
	p.remove(t, 1)
	has(t, p.s, nil, 0, 0)
	p.spoil(t, 1, 2, 0)
	has(t, p.s, []int{1}, 3, 0)
	p.flush(t, 1)
	is(t, p.s, 1, 2, []byte{1})
}

// P9.1: a bit is turned of what is kept, below what is pending: that is seen as it is, and, if it is lost, what is spoilt is there.
func TestP9_1_SpoiltBelowAPendingWrite(t *testing.T) {
	p := newPair()
	p.write(t, 1, 0, []byte("a"))
	p.flush(t, 1)
	p.write(t, 1, 0, []byte("b"))
	p.write(t, 1, 3, []byte("c"))
	p.spoil(t, 1, 0, 0)
	p.spoil(t, 1, 3, 8) // never flushed
	is(t, p.s, 1, 0, []byte("b"))
	is(t, p.s, 1, 3, []byte("c"))
	x := p.crash(t)
	is(t, x.s, 1, 0, []byte{'a' ^ 1})
	is(t, x.s, 1, 3, []byte{0, 1})
	has(t, x.s, []int{1}, 4, 0)
	is(t, p.crash(t, true).s, 1, 0, []byte("b"))
	p.spoil(t, 1, 0, 0) // and back
	is(t, p.crash(t).s, 1, 0, []byte("a"))
	p.spoil(t, 1, 0, 1)
	p.flush(t, 1) // what is flushed is as it was written
	is(t, p.s, 1, 0, []byte("b"))
	is(t, p.crash(t).s, 1, 0, []byte("b"))
	p.spoil(t, 1, 0, 1)
	is(t, p.s, 1, 0, []byte{'b' ^ 2})
	// Of another block, and another file, that is pending.
	p.write(t, 1, 5, []byte("d"))
	p.write(t, 2, 0, []byte("e"))
	p.spoil(t, 1, 0, 1)
	is(t, p.s, 1, 0, []byte("b"))
}

// P9.1: many calls, by chance, over several slates: each answers as the model does.
func TestP9_1_ManyCalls(t *testing.T) {
	r, had := rand.New(rand.NewSource(9)), map[api.Errno]int{}
	for range 120 {
		p := newPair()
		for range 120 {
			var e api.Errno
			p, e = p.act(t, r)
			had[e]++
		}
	}
	if had[api.OK] < 5000 || had[api.ErrRange] < 1000 || had[api.ErrDead] < 1000 {
		t.Errorf("only so many errors: %v", had)
	}
}

// P9.2: what was flushed is there behind any crash; a block is what it was flushed as, or one of the writes that were pending, whole.
func TestP9_2_AnyCrash(t *testing.T) {
	r := rand.New(rand.NewSource(92))
	for round := range 60 {
		s := slate.New()
		flushed, pending, wrote := map[[2]int][]byte{}, map[[2]int][][]byte{}, [][2]int{}
		for i := range 14 {
			at := [2]int{r.Intn(2) * 4095, r.Intn(3)}
			b := filled(1+r.Intn(64), byte(1+i))
			ok(t, s.Write(at[0], at[1], b))
			pending[at] = append(pending[at], block(b))
			wrote = append(wrote, at)
			if i == 5 || i == 6 && round%2 == 0 {
				ok(t, s.Flush(at[0]))
				for x, l := range pending {
					if x[0] == at[0] {
						flushed[x] = l[len(l)-1]
						delete(pending, x)
					}
				}
				wrote = slices.DeleteFunc(wrote, func(x [2]int) bool { return x[0] == at[0] })
			}
		}
		if s.Pending() != len(wrote) {
			t.Fatalf("%d pending, want %d", s.Pending(), len(wrote))
		}
		for n := range 1 << len(wrote) {
			keep := make([]bool, len(wrote))
			for i := range keep {
				keep[i] = n>>i&1 == 1
			}
			x := s.Crash(keep)
			for _, file := range []int{0, 4095} {
				for at := range 3 {
					place := [2]int{file, at}
					b, _ := x.Read(file, at)
					may := append([][]byte{block(flushed[place])}, pending[place]...)
					if !slices.ContainsFunc(may, func(m []byte) bool { return bytes.Equal(m, b) }) {
						t.Fatalf("block %v: % x, which it never was", place, b)
					}
				}
			}
		}
	}
}
