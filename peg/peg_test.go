package peg_test

import (
	"bytes"
	"math/rand"
	"slices"
	"testing"

	"spinney/api"
	"spinney/slate"
)

// lastTurn: the chapter's 2^40, written out.
const lastTurn = 1099511627776

// The chapter's example.
func TestP10_1_Example(t *testing.T) {
	s := slate.New()
	p := opened(t, s)
	is(t, p, 0, nil)
	ok(t, p.Set([]byte("ab")))
	is(t, p, 1, []byte("ab"))
	stands(t, s, noughts, handBlock(1, []byte("ab")))
	// Two steps with each Set: a budget of 1 isn't enough.
	s = slate.New()
	p = opened(t, s)
	ok(t, s.Arm(1))
	if e := p.Set([]byte("ab")); e != api.ErrDead || !s.Dead() || s.Pending() != 1 {
		t.Errorf("Set with a budget of 1: %d, %v, %d pending", e, s.Dead(), s.Pending())
	}
	is(t, p, 0, nil)
	is(t, opened(t, s.Crash([]bool{true})), 1, []byte("ab"))
	is(t, opened(t, s.Crash(nil)), 0, nil)
}

// A block's bytes, one by one.
func TestP10_1_ABlockWrittenOut(t *testing.T) {
	s := slate.New()
	ok(t, opened(t, s).Set([]byte("ab")))
	want := append([]byte{0x4d, 0, 0, 0, 0, 0, 0, 0, 1, 2, 'a', 'b'}, make([]byte, 48)...)
	b, _ := s.Read(0, 1)
	if !bytes.Equal(b[:60], want) {
		t.Errorf("% x, want % x", b[:60], want)
	}
	c := ^uint32(0)
	for _, x := range want {
		c ^= uint32(x)
		for range 8 {
			if c&1 == 1 {
				c = c>>1 ^ 0x82f63b78
			} else {
				c >>= 1
			}
		}
	}
	c = ^c
	if !bytes.Equal(b[60:], []byte{byte(c >> 24), byte(c >> 16), byte(c >> 8), byte(c)}) {
		t.Errorf("the sum % x, want %x", b[60:], c)
	}
}

func TestP10_1_ANewSlate(t *testing.T) {
	for _, s := range []*slate.Slate{slate.New(), slate.New().Crash(nil), slateOf(t, noughts, noughts)} {
		p := opened(t, s)
		is(t, p, 0, nil)
		if s.Pending() != 0 || len(s.Files()) != 0 {
			t.Errorf("Open has written: %d pending, files %v", s.Pending(), s.Files())
		}
	}
	// Blocks of noughts that were written are blank, too; what stands elsewhere is nothing to a peg.
	s := slate.New()
	ok(t, s.Write(0, 0, nil), s.Write(0, 1, noughts), s.Write(0, 2, some(64, 1)), s.Write(1, 0, handBlock(2, nil)), s.Flush(0), s.Flush(1))
	is(t, opened(t, s), 0, nil)
}

// Of each size: told, written, opened again.
func TestP10_1_SetAndOpenAgain(t *testing.T) {
	for _, room := range []int{0, 1} {
		s := slate.New()
		p := opened(t, s)
		want := [2][]byte{noughts, noughts}
		for turn := 1; turn <= 120; turn++ {
			b := some((turn+25)%51, turn)
			ok(t, p.Set(b))
			is(t, p, turn, b)
			want[turn%2] = handBlock(turn, b)
			stands(t, s, want[0], want[1])
			if s.Pending() != 0 {
				t.Fatalf("turn %d: %d writes are pending", turn, s.Pending())
			}
			is(t, opened(t, s), turn, b)
			is(t, opened(t, s.Crash(nil)), turn, b)
			if room == 1 { // and goes on as it was opened
				s = s.Crash(nil)
				p = opened(t, s)
			}
		}
	}
}

// The edges of sizes: 0, 1, 50 bytes, of noughts, too.
func TestP10_1_Sizes(t *testing.T) {
	for _, b := range [][]byte{nil, {0}, {1}, {255}, {0, 0, 0}, {5, 0}, make([]byte, 49), make([]byte, 50), some(50, 1), bytes.Repeat([]byte{255}, 50)} {
		s := slate.New()
		p := opened(t, s)
		for turn := 1; turn <= 3; turn++ { // the same bytes again are a turn, too
			ok(t, p.Set(b))
			is(t, p, turn, b)
			is(t, opened(t, s.Crash(nil)), turn, b)
		}
		if n := len(opened(t, s).Bytes()); n != len(b) {
			t.Errorf("%d bytes, want %d", n, len(b))
		}
	}
}

func TestP10_1_TooManyBytes(t *testing.T) {
	s := slate.New()
	p := opened(t, s)
	for turn := range 3 {
		was := blocksOf(s)
		for _, n := range []int{51, 52, 54, 60, 64, 100, 255, 256, 300, 1 << 20} {
			if e := p.Set(some(n, 1)); e != api.ErrRange || s.Pending() != 0 {
				t.Errorf("Set of %d bytes: %d, %d pending", n, e, s.Pending())
			}
		}
		is(t, p, turn, some(turn*16, turn))
		stands(t, s, was[0], was[1])
		ok(t, p.Set(some((turn+1)*16, turn+1)))
	}
}

// Two steps each time: a write, then a flush of file 0 alone.
func TestP10_1_Steps(t *testing.T) {
	for n := range 9 {
		s := slate.New()
		p := opened(t, s)
		ok(t, s.Arm(2*n))
		for turn := 1; turn <= n; turn++ {
			ok(t, p.Set(some(turn, turn)))
			p.Turn()
			p.Bytes()
			opened(t, s)
			if s.Dead() {
				t.Fatal("more than two steps with each Set")
			}
		}
		if e := p.Set(nil); e != api.ErrDead || s.Pending() != 0 {
			t.Errorf("a Set behind a budget of %d: %d, %d pending", 2*n, e, s.Pending())
		}
		is(t, p, n, some(n, n))
	}
	s := slate.New()
	ok(t, s.Write(1, 0, []byte("a")), s.Write(4095, 1, []byte("b")))
	p := opened(t, s)
	ok(t, p.Set([]byte("c")))
	if x := s.Crash(nil); s.Pending() != 2 || x.Blocks(1) != 0 || x.Blocks(4095) != 0 {
		t.Error("another file was flushed")
	}
	// What was pending of file 0 is flushed with it.
	ok(t, s.Write(0, 7, []byte("d")), p.Set([]byte("e")))
	if b, _ := s.Crash(nil).Read(0, 7); b[0] != 'd' {
		t.Error("file 0 wasn't flushed")
	}
}

// A peg that was refused is told as it was, and may be set again, when there are steps.
func TestP10_1_Dead(t *testing.T) {
	for turn := range 5 {
		for budget := range 2 {
			s := slate.New()
			p := opened(t, s)
			for i := 1; i <= turn; i++ {
				ok(t, p.Set(some(i, i)))
			}
			was := blocksOf(s)
			ok(t, s.Arm(budget))
			for range 3 {
				if e := p.Set([]byte("new")); e != api.ErrDead {
					t.Errorf("Set with a budget of %d: %d", budget, e)
				}
				is(t, p, turn, some(turn, turn))
			}
			x := s.Crash(nil)
			stands(t, x, was[0], was[1])
			is(t, opened(t, x), turn, some(turn, turn))
			ok(t, s.Arm(2), p.Set([]byte("newer")))
			is(t, p, turn+1, []byte("newer"))
			is(t, opened(t, s.Crash(nil)), turn+1, []byte("newer"))
		}
	}
}

// The greater turn counts, wherever it stands, and however much greater it is.
func TestP10_1_TheGreaterTurn(t *testing.T) {
	a, b := []byte("a"), []byte("bb")
	for _, c := range [][2]int{{2, 1}, {2, 3}, {256, 255}, {256, 257}, {2, 255}, {1 << 16, 3}, {1 << 32, 255}, {1<<32 + 2, 1<<32 + 1}, {4, 1<<40 - 1}, {1 << 40, 1<<40 - 1}, {10, 1<<24 + 1}, {1 << 39, 1<<39 + 1}} {
		s := slateOf(t, handBlock(c[0], a), handBlock(c[1], b))
		if c[0] > c[1] {
			is(t, opened(t, s), c[0], a)
		} else {
			is(t, opened(t, s), c[1], b)
		}
	}
	// Beside a blank one.
	for _, turn := range []int{2, 4, 256, 1 << 32, 1 << 40} {
		is(t, opened(t, slateOf(t, handBlock(turn, a), noughts)), turn, a)
		is(t, opened(t, slateOf(t, noughts, handBlock(turn-1, b))), turn-1, b)
	}
	// What is set then is written over the other block.
	s := slateOf(t, handBlock(8, a), noughts)
	ok(t, opened(t, s).Set(b))
	stands(t, s, handBlock(8, a), handBlock(9, b))
	s = slateOf(t, handBlock(8, a), handBlock(257, a))
	ok(t, opened(t, s).Set(b))
	stands(t, s, handBlock(258, b), handBlock(257, a))
}

// All eight bytes of a turn count.
func TestP10_1_EachByteOfATurn(t *testing.T) {
	for shift := range 40 {
		turn := 1<<shift | 1
		s := slateOf(t, noughts, handBlock(turn, []byte("x")))
		p := opened(t, s)
		is(t, p, turn, []byte("x"))
		ok(t, p.Set([]byte("y")))
		is(t, p, turn+1, []byte("y"))
		stands(t, s, handBlock(turn+1, []byte("y")), handBlock(turn, []byte("x")))
	}
}

func TestP10_1_TheLastTurn(t *testing.T) {
	b := []byte("last")
	for _, other := range [][]byte{noughts, handBlock(lastTurn-1, nil), handBlock(3, []byte("c"))} {
		s := slateOf(t, handBlock(lastTurn, b), other)
		p := opened(t, s)
		for _, x := range [][]byte{nil, []byte("new"), some(50, 1), some(51, 1)} {
			if e := p.Set(x); e != api.ErrRange || s.Pending() != 0 {
				t.Errorf("Set of the last turn: %d, %d pending", e, s.Pending())
			}
			is(t, p, lastTurn, b)
		}
		stands(t, s, handBlock(lastTurn, b), other)
	}
	s := slateOf(t, handBlock(lastTurn-2, b), noughts)
	p := opened(t, s)
	ok(t, p.Set([]byte("c")), p.Set([]byte("d")))
	is(t, p, lastTurn, []byte("d"))
	stands(t, s, handBlock(lastTurn, []byte("d")), handBlock(lastTurn-1, []byte("c")))
	if e := p.Set(nil); e != api.ErrRange {
		t.Errorf("Set behind the last turn: %d", e)
	}
	is(t, opened(t, s), lastTurn, []byte("d"))
}

// Bytes that are neither noughts nor a block of a peg, though their sum is right.
func TestP10_1_OtherBlocks(t *testing.T) {
	a := []byte("ab")
	for i := range 2 {
		turn := uint64(2 + i) // of this block, and good
		other := handBlock(3-i, a)
		at := func(b []byte, why ...any) {
			t.Helper()
			for _, x := range [][]byte{noughts, other} {
				l := [2][]byte{x, x}
				l[i] = b
				rotten(t, slateOf(t, l[0], l[1]), append(why, i)...)
			}
		}
		for c := range 256 {
			if c != 0x4d {
				at(sealed(ahead(byte(c), turn, 2, a)), "first byte", c)
			}
			if c > 50 {
				at(sealed(ahead(0x4d, turn, c, a)), "bytes told", c)
				at(sealed(ahead(0x4d, turn, c, some(50, c))), "bytes told", c)
			}
		}
		for _, x := range []uint64{0, 1 - uint64(i), turn + 1, turn - 1, 1<<40 + turn - 1, 1<<32 + 1 + turn} {
			at(sealed(ahead(0x4d, x, 2, a)), "turn", x)
		}
		at(sealed(ahead(0x4d, 0, 0, nil)), "turn 0")
		at(sealed(ahead(0, 0, 0, nil)), "60 noughts and their sum")
		for size := range 50 { // bytes behind those that are told
			for _, k := range []int{size, (size + 49) / 2, 49} {
				b := some(size, 1)
				b = append(b, make([]byte, 50-size)...)
				b[k] = 1
				at(sealed(ahead(0x4d, turn, size, b)), "bytes told", size, "one behind at", k)
			}
		}
	}
	for _, b := range [][]byte{some(64, 3), []byte("M"), {0x4d}, bytes.Repeat([]byte{255}, 64), append(make([]byte, 63), 1), append([]byte{1}, make([]byte, 63)...)} {
		b = append(b, make([]byte, 64-len(b))...)
		rotten(t, slateOf(t, b, noughts), "other bytes")
		rotten(t, slateOf(t, noughts, b), "other bytes")
	}
}

// Another sum: the highest first, of all that stands ahead.
func TestP10_1_OtherSums(t *testing.T) {
	good := handBlock(2, []byte("ab"))
	is(t, opened(t, slateOf(t, good, noughts)), 2, []byte("ab"))
	turned := bytes.Clone(good)
	slices.Reverse(turned[60:])
	rotten(t, slateOf(t, turned, noughts), "the sum, the lowest first")
	rotten(t, slateOf(t, append(bytes.Clone(good[:60]), 0, 0, 0, 0), noughts), "no sum")
	rotten(t, slateOf(t, append(bytes.Clone(good[:60]), sealed(good[:12])[12:]...), noughts), "the sum of what is told alone")
	rotten(t, slateOf(t, append(bytes.Clone(good[:60]), handBlock(2, []byte("ac"))[60:]...), noughts), "another one's sum")
	for i := 60; i < 64; i++ {
		for c := range 256 {
			b := bytes.Clone(good)
			if b[i] != byte(c) {
				b[i] = byte(c)
				rotten(t, slateOf(t, b, handBlock(1, nil)), "a sum with the byte", i, c)
			}
		}
	}
	// Both spoilt, or the one that doesn't count.
	rotten(t, slateOf(t, turned, turned), "both")
	rotten(t, slateOf(t, turned, handBlock(3, nil)), "the elder one")
	rotten(t, slateOf(t, handBlock(3, nil), handBlock(2, nil)), "each in the place of the other one")
}

// P10.3: each bit of either block, blank or not.
func TestP10_3_EachBitTurned(t *testing.T) {
	for _, blocks := range [][2][]byte{{noughts, noughts}, {noughts, handBlock(1, []byte("ab"))}, {handBlock(2, some(50, 1)), handBlock(1, []byte("ab"))}, {handBlock(2, nil), handBlock(3, some(50, 2))}, {handBlock(1<<40, nil), noughts}} {
		s := slateOf(t, blocks[0], blocks[1])
		p := opened(t, s)
		turn, b := p.Turn(), p.Bytes()
		for block := range 2 {
			for bit := range 512 {
				ok(t, s.Spoil(0, block, bit))
				rotten(t, s, "block", block, "bit", bit)
				ok(t, s.Spoil(0, block, bit))
			}
		}
		is(t, opened(t, s), turn, b)
	}
}

// P10.3, of pegs as they were set: each bit of either block.
func TestP10_3_EachBitOfASetPeg(t *testing.T) {
	s := slate.New()
	p := opened(t, s)
	for turn := 1; turn <= 4; turn++ {
		ok(t, p.Set(some(turn*12, turn)))
		for block := range 2 {
			for bit := range 512 {
				x := s.Crash(nil)
				ok(t, x.Spoil(0, block, bit))
				rotten(t, x, "turn", turn, "block", block, "bit", bit)
			}
		}
	}
}

// P10.2: with every budget, and every way of what is kept: a peg has the bytes that were set last with OK, or those that were being set.
func TestP10_2_WhereverThePowerGoes(t *testing.T) {
	for start := range 4 {
		for budget := range 14 {
			s := slate.New()
			p := opened(t, s)
			for turn := 1; turn <= start; turn++ {
				ok(t, p.Set(some(turn, turn)))
			}
			ok(t, s.Arm(budget))
			turn, e := start, api.OK
			for e == api.OK {
				if e = p.Set(some(turn+1, turn+1)); e == api.OK {
					turn++
				}
			}
			if want := start + budget/2; e != api.ErrDead || turn != want {
				t.Fatalf("%d Sets with a budget of %d: %d", turn-start, budget, e)
			}
			is(t, p, turn, some(turn, turn))
			for _, keep := range masks(s.Pending()) {
				now := turn
				if budget%2 == 1 && len(keep) > 0 && keep[0] {
					now++ // the write was kept
				}
				is(t, opened(t, s.Crash(keep)), now, some(now, now))
			}
		}
	}
}

// P10.2, with other writes pending on the same slate, in other files.
func TestP10_2_BesideOtherFiles(t *testing.T) {
	for budget := range 8 {
		s := slate.New()
		p := opened(t, s)
		ok(t, p.Set([]byte("a")), s.Write(1, 0, []byte("x")), s.Write(2, 0, []byte("y")), s.Arm(budget))
		turn, e := 1, api.OK
		for e == api.OK {
			if e = p.Set(some(turn, turn)); e == api.OK {
				turn++
			}
		}
		for _, keep := range masks(s.Pending()) {
			q := opened(t, s.Crash(keep))
			if n := q.Turn(); n != turn && n != turn+1 {
				t.Fatalf("budget %d, kept %v: turn %d, want %d or one more", budget, keep, n, turn)
			}
		}
	}
}

// P10.2: many lives, by chance, one behind the other: each goes on where the last one was.
func TestP10_2_ManyLives(t *testing.T) {
	r := rand.New(rand.NewSource(10))
	for range 60 {
		s := slate.New()
		var sure, trying []byte
		turn, odd := 0, 0
		for range 60 {
			p := opened(t, s)
			switch {
			case p.Turn() == turn && bytes.Equal(p.Bytes(), sure):
			case p.Turn() == turn+1 && bytes.Equal(p.Bytes(), trying):
				turn, sure = turn+1, trying
				odd++
			default:
				t.Fatalf("turn %d, % x; want %d, % x, or % x", p.Turn(), p.Bytes(), turn, sure, trying)
			}
			ok(t, s.Arm(r.Intn(9)))
			for e := api.OK; e == api.OK; {
				trying = some(r.Intn(51), r.Int())
				if e = p.Set(trying); e == api.OK {
					turn, sure = turn+1, trying
				}
				is(t, p, turn, sure)
			}
			s = s.Crash(masks(s.Pending())[r.Intn(len(masks(s.Pending())))])
		}
		if odd == 0 {
			t.Error("nothing was kept that was being set")
		}
	}
}

// handPeg is what a peg of these blocks is; no, if it is rotten.
func handPeg(blocks [2][]byte) (turn int, what []byte, good bool) {
	for i, b := range blocks {
		if bytes.Equal(b, noughts) {
			continue
		}
		n, size := 0, int(b[9])
		for _, c := range b[1:9] {
			n = n<<8 | int(c)
		}
		if size > 50 || n < 1 || n%2 != i || !bytes.Equal(b, handBlock(n, b[10:10+size])) {
			return 0, nil, false
		}
		if n > turn {
			turn, what = n, b[10:10+size]
		}
	}
	return turn, what, true
}

// look fails, if the peg of two blocks isn't what it is by hand.
func look(t *testing.T, a, b []byte) {
	t.Helper()
	s := slateOf(t, a, b)
	turn, what, good := handPeg([2][]byte{a, b})
	if !good {
		rotten(t, s, "by hand")
		return
	}
	is(t, opened(t, s), turn, what)
}

// P10.1: blocks of which some bytes are others, sealed again.
func TestP10_1_ChangedBlocks(t *testing.T) {
	r := rand.New(rand.NewSource(11))
	for range 20000 {
		blocks := [2][]byte{handBlock(2*(1+r.Intn(300)), some(r.Intn(51), 1)), handBlock(1+2*r.Intn(300), some(r.Intn(51), 2))}
		for range r.Intn(3) {
			b := blocks[r.Intn(2)]
			b[1+4+r.Intn(12)] = byte(r.Intn(60))
			if r.Intn(4) > 0 {
				copy(b, sealed(b[:60]))
			}
		}
		if r.Intn(9) == 0 {
			blocks[r.Intn(2)] = noughts
		}
		look(t, blocks[0], blocks[1])
	}
}

// More inputs for Open.
func FuzzOpen(f *testing.F) {
	f.Add([]byte{}, []byte{}, false)
	f.Add(handBlock(2, []byte("a")), handBlock(1, nil), true)
	f.Add(handBlock(2, some(50, 1)), handBlock(301, some(50, 1)), false)
	f.Fuzz(func(t *testing.T, a, b []byte, seal bool) {
		l := [2][]byte{}
		for i, x := range [][]byte{a, b} {
			l[i] = append(bytes.Clone(x[:min(len(x), 64)]), make([]byte, 64-min(len(x), 64))...)
			// To greater turns no Set leads.
			clear(l[i][1:4])
			if seal {
				l[i] = sealed(l[i][:60])
			}
		}
		look(t, l[0], l[1])
	})
}
