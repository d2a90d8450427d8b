package ledger_test

import (
	"math/rand"
	"slices"
	"testing"

	"spinney/api"
	"spinney/frame"
	"spinney/ledger"
	"spinney/slate"
)

// sureAt: an extent that was told behind a Flush that answered OK, and how many pieces there were then.
type sureAt struct {
	x ledger.Extent
	n int
}

// script: what is done with a ledger: a piece of so many bytes is appended; 0: it is flushed.
type script []int

// play does a script till a step is refused: what was appended, all that was sure, and how many calls were answered OK.
func (c script) play(l *ledger.Ledger) (pieces []frame.Piece, sure []sureAt, calls int) {
	sure = append(sure, sureAt{l.Extent(), 0})
	for i, n := range c {
		if n > 0 {
			p := sized(n, i)
			if l.Append(p) != api.OK {
				return pieces, sure, i
			}
			pieces = append(pieces, p)
			continue
		}
		if l.Flush() != api.OK {
			return pieces, sure, i
		}
		sure = append(sure, sureAt{l.Extent(), len(pieces)})
	}
	return pieces, sure, len(c)
}

func scripts() []script {
	return []script{
		{69, 0}, {9, 0, 9, 0, 9, 0}, {64, 0, 64, 0, 65, 0, 63, 0}, {60, 70, 0, 9, 9, 9, 0, 0, 200, 0}, {1000, 0, 20, 0, 20, 0, 20, 0}, {1024, 0, 1024, 0, 9, 0}, {1015, 0, 9, 0, 9, 0}, {300, 0, 2500, 0, 100, 0}, {9, 20, 30, 500, 0, 600, 9, 9, 0, 64},
	}
}

// P11.2: with a budget that ends at each step, and every way of what is kept (of many writes some ways): each extent that was told behind a Flush has just the pieces of then.
func TestP11_2_WhereverThePowerGoes(t *testing.T) {
	for _, c := range scripts() {
		for budget := 0; ; budget++ {
			s := slate.New()
			l := made(t, s, 1)
			ok(t, s.Arm(budget))
			pieces, sure, calls := c.play(l)
			if s.Dead() != (calls < len(c)) {
				t.Fatalf("%v with a budget of %d: %d calls, dead %v", c, budget, calls, s.Dead())
			}
			for _, keep := range ways(s.Pending()) {
				x := s.Crash(keep)
				for _, at := range sure {
					holds(t, x, at.x, pieces[:at.n])
				}
			}
			for _, at := range sure { // and as it is seen, without a crash
				holds(t, s, at.x, pieces[:at.n])
			}
			if calls == len(c) {
				break
			}
		}
	}
}

// P11.2: with nothing kept the last sure extent is all there is: what came behind isn't sure.
func TestP11_2_WhatIsNotFlushedIsNotSure(t *testing.T) {
	for _, ahead := range []int{0, 9, 64, 100, 1024} {
		s := slate.New()
		l := made(t, s, 1)
		var pieces []frame.Piece
		if ahead > 0 {
			pieces = append(pieces, sized(ahead, 1))
			ok(t, l.Append(pieces[0]), l.Flush())
		}
		sure := l.Extent()
		ok(t, l.Append(sized(200, 2)))
		x := s.Crash(nil)
		holds(t, x, sure, pieces)
		refused(t, x, l.Extent(), api.ErrRot, "what wasn't flushed")
		if s.Pending() == 0 {
			t.Error("Append has flushed")
		}
		holds(t, s.Crash(slices.Repeat([]bool{true}, s.Pending())), l.Extent(), append(pieces, sized(200, 2)))
	}
}

// P11.2: a budget that ends within a Remove: files of another ledger go, this one's extent stays.
func TestP11_2_WithinARemove(t *testing.T) {
	for budget := range 6 {
		s := slate.New()
		old, l := made(t, s, 1), made(t, s, 5)
		ok(t, old.Append(sized(4000, 1)), old.Flush(), l.Append(sized(1500, 2)), l.Flush(), l.Append(sized(90, 3)))
		sure := extentOf(5, framed(sized(1500, 2)))
		ok(t, s.Arm(budget))
		e := ledger.Remove(s, old.Files())
		if (e == api.OK) != (budget >= 4) || e != api.OK && e != api.ErrDead {
			t.Errorf("Remove with a budget of %d: %d", budget, e)
		}
		for _, keep := range ways(s.Pending()) {
			x := s.Crash(keep)
			holds(t, x, sure, []frame.Piece{sized(1500, 2)})
			if budget == 0 {
				holds(t, x, old.Extent(), []frame.Piece{sized(4000, 1)})
			} else {
				refused(t, x, old.Extent(), api.ErrRot, "files are gone")
			}
		}
	}
}

// P11.2: many lives, by chance: each goes on from the last sure extent, whatever was kept behind it.
func TestP11_2_ManyLives(t *testing.T) {
	r := rand.New(rand.NewSource(11))
	for range 40 {
		s := slate.New()
		first := 1 + r.Intn(lastFirst)
		l := made(t, s, first)
		var pieces []frame.Piece
		sure := sureAt{l.Extent(), 0}
		for life := range 40 {
			ok(t, s.Arm(r.Intn(40)))
			e := api.OK
			for k := 0; e == api.OK && k < 12; k++ {
				if r.Intn(3) == 0 {
					if e = l.Flush(); e == api.OK {
						sure = sureAt{l.Extent(), len(pieces)}
					}
					continue
				}
				p := sized(9+r.Intn(1+r.Intn(1+r.Intn(900))), life+k)
				if e = l.Append(p); e == api.OK {
					pieces = append(pieces, p)
				}
			}
			if e == api.OK {
				is(t, l, s, first, pieces)
			}
			keep := make([]bool, s.Pending())
			for i := range keep {
				keep[i] = r.Intn(2) == 0
			}
			if sure.x.Length > 100000 {
				break
			}
			s = s.Crash(keep)
			pieces = pieces[:sure.n]
			l = holds(t, s, sure.x, pieces)
		}
	}
}

// turned fails, if an extent of which a bit is turned isn't ErrRot, or one of which none is isn't told.
func turned(t *testing.T, s *slate.Slate, x ledger.Extent, pieces []frame.Piece, file, block, bit int) {
	t.Helper()
	ok(t, s.Spoil(file, block, bit))
	at := (file-x.First)*1024 + block*64 + bit/8
	if file >= x.First && block < 16 && at < x.Length {
		refused(t, s, x, api.ErrRot, "file", file, "block", block, "bit", bit)
	} else {
		holds(t, s, x, pieces)
	}
	ok(t, s.Spoil(file, block, bit))
}

// P11.3: each bit within an extent; what stands around it is nothing to it.
func TestP11_3_EachBitTurned(t *testing.T) {
	for _, c := range []struct {
		first int
		sizes []int
	}{{1, nil}, {1, []int{69}}, {2, []int{9}}, {3, []int{55}}, {1, []int{64}}, {1, []int{1000, 9, 200}}, {lastFirst, []int{9, 1015, 9}}} {
		s := slate.New()
		ok(t, s.Write(0, 0, []byte("other")), s.Flush(0))
		l := made(t, s, c.first)
		var pieces []frame.Piece
		for i, n := range c.sizes {
			pieces = append(pieces, sized(n, i))
			ok(t, l.Append(pieces[i]))
		}
		ok(t, l.Flush())
		x := l.Extent()
		for at := 0; at < x.Length; at += 64 {
			file, block := placeOf(c.first, at)
			for bit := range 512 {
				turned(t, s, x, pieces, file, block, bit)
			}
		}
		behind, block := placeOf(c.first, (x.Length+63)/64*64)
		for bit := range 512 { // around it
			turned(t, s, x, pieces, 0, 0, bit)
			turned(t, s, x, pieces, behind, block, bit)
			turned(t, s, x, pieces, behind+1, 0, bit)
			turned(t, s, x, pieces, c.first, 16, bit)
			turned(t, s, x, pieces, c.first, 1023, bit)
		}
		holds(t, s, x, pieces)
	}
}

// P11.3: a bit of an extent that was told earlier, and of what came behind.
func TestP11_3_EarlierExtents(t *testing.T) {
	s := slate.New()
	l := made(t, s, 1)
	ok(t, l.Append(sized(100, 1)), l.Flush())
	x := l.Extent()
	ok(t, l.Append(sized(100, 2)), l.Flush())
	all := []frame.Piece{sized(100, 1), sized(100, 2)}
	for block := range 4 {
		for bit := range 512 {
			turned(t, s, x, all[:1], 1, block, bit)
			turned(t, s, l.Extent(), all, 1, block, bit)
		}
	}
}
