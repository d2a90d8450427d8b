package ledger_test

import (
	"bytes"
	"fmt"
	"math"
	"slices"
	"testing"

	"spinney/api"
	"spinney/frame"
	"spinney/ledger"
	"spinney/slate"
)

const least, greatest = math.MinInt, math.MaxInt

// The greatest numbers of the chapter, written out.
const (
	lastFirst = 3000
	most      = 131072
	inside    = 100000
)

// The chapter's example.
func TestP11_1_Example(t *testing.T) {
	s := slate.New()
	l := made(t, s, 1)
	p := piece(60, 1)
	ok(t, l.Append(p))
	if x := l.Extent(); x.First != 1 || x.Length != 69 || x.Sum != handSum(framed(p)) {
		t.Errorf("the extent %v", x)
	}
	if s.Pending() != 2 || s.Blocks(1) != 2 || !slices.Equal(s.Files(), []int{1}) {
		t.Errorf("%d writes, %d blocks of file 1, files %v", s.Pending(), s.Blocks(1), s.Files())
	}
	is(t, l, s, 1, []frame.Piece{p})
}

func TestP11_1_New(t *testing.T) {
	for _, first := range []int{1, 2, 1500, 2999, 3000} {
		s := slate.New()
		ok(t, s.Arm(0))
		l := made(t, s, first)
		is(t, l, s, first, nil)
		if l.Extent() != (ledger.Extent{First: first}) || !slices.Equal(l.Files(), []int{first}) {
			t.Errorf("the extent %v, files %v", l.Extent(), l.Files())
		}
		ok(t, l.Flush()) // nothing was written
		if s.Dead() || s.Pending() != 0 || len(s.Files()) != 0 {
			t.Error("a step of a ledger without bytes")
		}
		holds(t, s, ledger.Extent{First: first}, nil)
	}
	for _, first := range []int{least, -3000, -1, 0, 3001, 3002, 4095, 4096, 1 << 16, 1<<32 + 1, greatest} {
		if l, e := ledger.New(slate.New(), first); e != api.ErrRange || l != nil {
			t.Errorf("New at %d: %v, %d", first, l, e)
		}
		refused(t, slate.New(), ledger.Extent{First: first}, api.ErrRange, "first")
	}
}

// Frames that end at all places around a block's and a file's end: each block of which a byte is new is written, whole.
func TestP11_1_Append(t *testing.T) {
	for _, first := range []int{1, 7, lastFirst} {
		for _, size := range []int{9, 10, 63, 64, 65, 69, 127, 128, 129, 500, 1023, 1024, 1025, 1087, 1088, 1089, 2047, 2048, 2049, 3333} {
			s := slate.New()
			l := made(t, s, first)
			var pieces []frame.Piece
			length, pending := 0, 0
			for i, n := range []int{size, 9, 55, 64, size, 1, 1024, 200, 9, size} {
				p := sized(max(n, 9), i)
				ok(t, l.Append(p))
				pieces = append(pieces, p)
				pending += blocksWritten(length, length+len(framed(p)))
				length += len(framed(p))
				if s.Pending() != pending {
					t.Fatalf("%d writes, want %d, behind%s", s.Pending(), pending, tell(pieces))
				}
				is(t, l, s, first, pieces)
				alone(t, s, first, length)
				holds(t, s, l.Extent(), pieces)
			}
		}
	}
}

// A frame's last byte at each place of a block.
func TestP11_1_EndsEverywhere(t *testing.T) {
	for size := 9; size <= 140; size++ {
		for _, ahead := range []int{0, 9, 55, 64, 1000} {
			s := slate.New()
			l := made(t, s, 3)
			var pieces []frame.Piece
			if ahead > 0 {
				pieces = []frame.Piece{sized(ahead, 4)}
				ok(t, l.Append(pieces[0]), l.Flush())
			}
			pieces = append(pieces, sized(size, 5))
			ok(t, l.Append(pieces[len(pieces)-1]))
			if s.Pending() != blocksWritten(ahead, ahead+size) {
				t.Errorf("%d bytes behind %d: %d writes", size, ahead, s.Pending())
			}
			is(t, l, s, 3, pieces)
			ok(t, l.Append(sized(70, 6)), l.Flush())
			pieces = append(pieces, sized(70, 6))
			is(t, l, s, 3, pieces)
			holds(t, s.Crash(nil), l.Extent(), pieces)
		}
	}
}

// Pieces without bytes, and of all kinds.
func TestP11_1_SmallPieces(t *testing.T) {
	s := slate.New()
	l := made(t, s, 1)
	var pieces []frame.Piece
	for kind := range 256 {
		pieces = append(pieces, frame.Piece{Kind: byte(kind)})
		ok(t, l.Append(pieces[kind]))
		is(t, l, s, 1, pieces)
	}
	ok(t, l.Flush())
	if x := l.Extent(); x.Length != 256*9 || len(l.Files()) != 3 {
		t.Errorf("the extent %v, files %v", x, l.Files())
	}
	holds(t, s.Crash(nil), l.Extent(), pieces)
}

// The writes of an Append are rising: with a budget of n the first n are done.
func TestP11_1_TheWritesRise(t *testing.T) {
	for _, ahead := range []int{0, 9, 60, 64, 990} {
		for budget := range 8 {
			s := slate.New()
			l := made(t, s, 1)
			if ahead > 0 {
				ok(t, l.Append(sized(max(ahead, 9), 1)), l.Flush())
			}
			was := s.Crash(nil)
			p := sized(300, 2)
			all := blocksWritten(ahead, ahead+300)
			ok(t, s.Arm(budget))
			if e := l.Append(p); (e == api.OK) != (budget >= all) || e != api.OK && e != api.ErrDead {
				t.Errorf("Append of %d blocks with a budget of %d: %d", all, budget, e)
			}
			if s.Pending() != min(budget, all) {
				t.Errorf("%d writes with a budget of %d", s.Pending(), budget)
			}
			b := make([]byte, (ahead+300+63)/64*64)
			if ahead > 0 {
				copy(b, framed(sized(ahead, 1)))
			}
			copy(b[ahead:], framed(p))
			for at := 0; at < len(b); at += 64 {
				file, block := placeOf(1, at)
				x, _ := s.Read(file, block)
				want := b[at : at+64]
				if at/64 >= ahead/64+budget { // it wasn't written
					want, _ = was.Read(file, block)
				}
				if !bytes.Equal(x, want) {
					t.Errorf("behind %d bytes, with a budget of %d: block %d: % x, want % x", ahead, budget, at/64, x, want)
				}
			}
		}
	}
}

// Each block is written once, whole: what of a piece's writes is kept alone has what stood ahead, and noughts behind.
func TestP11_1_EachWriteOfItself(t *testing.T) {
	for _, ahead := range []int{9, 60, 64, 1000, 1023, 1024} {
		s := slate.New()
		l := made(t, s, 1)
		ok(t, l.Append(sized(ahead, 1)), l.Flush())
		ok(t, l.Append(sized(200, 2)))
		b := append(bytesOf([]frame.Piece{sized(ahead, 1), sized(200, 2)}), make([]byte, 64)...)
		for i := range s.Pending() {
			keep := make([]bool, s.Pending())
			keep[i] = true
			x := s.Crash(keep)
			at := ahead/64*64 + i*64
			file, block := placeOf(1, at)
			got, _ := x.Read(file, block)
			want := make([]byte, 64)
			copy(want, b[at:ahead+200])
			if !bytes.Equal(got, want) {
				t.Errorf("behind %d bytes, write %d: % x, want % x", ahead, i, got, want)
			}
			holds(t, x, extentOf(1, b[:ahead]), []frame.Piece{sized(ahead, 1)})
		}
	}
}

// A flush takes a step with each file of which a block was written since the last one, the files rising.
func TestP11_1_Flush(t *testing.T) {
	for _, c := range []struct{ ahead, size, from, to int }{
		{0, 9, 1, 1}, {0, 1024, 1, 1}, {0, 1025, 1, 2}, {9, 9, 1, 1}, {9, 1015, 1, 1}, {9, 1016, 1, 2}, {1000, 24, 1, 1}, {1000, 25, 1, 2}, {1023, 9, 1, 2}, {1024, 9, 2, 2}, {1024, 1024, 2, 2}, {1024, 1025, 2, 3}, {1025, 9, 2, 2}, {2048, 3000, 3, 5}, {1100, 5000, 2, 6}, {5000, 120, 5, 5}, {5000, 121, 5, 6},
	} {
		steps := c.to - c.from + 1
		for budget := range steps + 2 {
			s := slate.New()
			l := made(t, s, 1)
			if c.ahead > 0 {
				ok(t, l.Append(sized(c.ahead, 1)), l.Flush())
			}
			ok(t, l.Append(sized(c.size, 2)), s.Arm(budget))
			pending, x := s.Pending(), s.Crash(slices.Repeat([]bool{true}, s.Pending()))
			e := l.Flush()
			if (e == api.OK) != (budget >= steps) || e != api.OK && e != api.ErrDead || s.Dead() != (budget < steps) {
				t.Errorf("%v with a budget of %d: Flush: %d, dead %v", c, budget, e, s.Dead())
			}
			if s.Pending() > pending || budget >= steps && s.Pending() != 0 {
				t.Errorf("%v with a budget of %d: %d pending", c, budget, s.Pending())
			}
			for file := c.from; file <= c.to; file++ { // the first ones alone are kept
				y := s.Crash(nil)
				for block := range 16 {
					got, _ := y.Read(file, block)
					all, _ := x.Read(file, block)
					if file-c.from < budget && !bytes.Equal(got, all) {
						t.Fatalf("%v with a budget of %d: block %d of file %d isn't kept", c, budget, block, file)
					}
				}
				at := (file - 1) * 1024 // its first byte
				if file-c.from >= budget && at >= c.ahead && y.Blocks(file) != 0 {
					t.Fatalf("%v with a budget of %d: file %d is kept", c, budget, file)
				}
			}
			if e == api.OK {
				ok(t, s.Arm(0), l.Flush(), l.Flush()) // nothing was written since
				if s.Dead() {
					t.Errorf("%v: a Flush without anything written takes a step", c)
				}
				holds(t, s.Crash(nil), l.Extent(), []frame.Piece{sized(max(c.ahead, 9), 1), sized(c.size, 2)}[btoi(c.ahead == 0):])
			}
		}
	}
}

func btoi(b bool) int {
	if b {
		return 1
	}
	return 0
}

// Several Appends, then one Flush; what is pending of other files stays so.
func TestP11_1_FlushOfSeveral(t *testing.T) {
	s := slate.New()
	l := made(t, s, 2)
	ok(t, s.Write(0, 0, []byte("a")), s.Write(1, 0, []byte("b")), s.Write(9, 0, []byte("c")))
	var pieces []frame.Piece
	for i, n := range []int{100, 9, 800, 300, 64, 2000} {
		pieces = append(pieces, sized(n, i))
		ok(t, l.Append(pieces[i]))
	}
	ok(t, s.Arm(4), l.Flush())
	if s.Pending() != 3 {
		t.Errorf("%d pending, want those of other files", s.Pending())
	}
	if e := s.Flush(0); e != api.ErrDead {
		t.Error("fewer steps than there are files")
	}
	x := s.Crash(nil)
	holds(t, x, l.Extent(), pieces)
	if x.Blocks(0)+x.Blocks(1)+x.Blocks(9) != 0 {
		t.Error("other files were flushed")
	}
}

// Opened again behind each Flush, a ledger goes on as if it had stayed.
func TestP11_1_OpenedAgain(t *testing.T) {
	for _, again := range []int{1, 2, 3, 5} {
		s := slate.New()
		l := made(t, s, 5)
		var pieces []frame.Piece
		for i := range 60 {
			p := sized(9+i*i*7%700, i)
			ok(t, l.Append(p), l.Flush())
			pieces = append(pieces, p)
			is(t, l, s, 5, pieces)
			if i%again == 0 {
				s = s.Crash(nil)
				l = holds(t, s, extentOf(5, bytesOf(pieces)), pieces)
				is(t, l, s, 5, pieces)
				ok(t, s.Arm(0), l.Flush(), s.Arm(1<<40))
				if s.Pending() != 0 {
					t.Error("Open has written")
				}
			}
		}
		alone(t, s, 5, len(bytesOf(pieces)))
	}
}

// Steps of an opened ledger: the block in which it ends is written anew, and just the files that are new are flushed.
func TestP11_1_StepsOfAnOpenedLedger(t *testing.T) {
	for _, ahead := range []int{9, 63, 64, 65, 1000, 1024, 1025, 2048} {
		s := slate.New()
		first := made(t, s, 1)
		ok(t, first.Append(sized(ahead, 1)), first.Flush())
		s = s.Crash(nil)
		l := holds(t, s, first.Extent(), []frame.Piece{sized(ahead, 1)})
		writes, flushes := blocksWritten(ahead, ahead+30), (ahead+29)/1024-ahead/1024+1
		ok(t, s.Arm(writes), l.Append(sized(30, 2)))
		if s.Pending() != writes || l.Flush() != api.ErrDead {
			t.Errorf("behind %d bytes: %d writes, want %d", ahead, s.Pending(), writes)
		}
		s = s.Crash(nil)
		l = holds(t, s, first.Extent(), []frame.Piece{sized(ahead, 1)})
		ok(t, s.Arm(writes+flushes), l.Append(sized(30, 2)), l.Flush())
		if s.Pending() != 0 || s.Flush(1) != api.ErrDead {
			t.Errorf("behind %d bytes: not just %d flushes", ahead, flushes)
		}
		is(t, l, s, 1, []frame.Piece{sized(ahead, 1), sized(30, 2)})
	}
}

// An extent that was told earlier, opened behind later Appends, has the pieces of then; what stands behind is let be.
func TestP11_1_EarlierExtents(t *testing.T) {
	s := slate.New()
	l := made(t, s, 1)
	var pieces []frame.Piece
	told := []ledger.Extent{l.Extent()}
	for i := range 30 {
		pieces = append(pieces, sized(9+i*37%200, i))
		ok(t, l.Append(pieces[i]))
		told = append(told, l.Extent())
	}
	for i, x := range told {
		holds(t, s, x, pieces[:i])
	}
	ok(t, l.Flush())
	for i, x := range told {
		holds(t, s.Crash(nil), x, pieces[:i])
		if s.Pending() != 0 {
			t.Fatal("Open has written")
		}
	}
	stands(t, s, 1, bytesOf(pieces))
	// What is appended to an earlier one stands in the place of what came behind, in the blocks of which a byte is new.
	for _, i := range []int{0, 1, 7, 13, 29} {
		x := s.Crash(nil)
		old := holds(t, x, told[i], pieces[:i])
		ok(t, old.Append(sized(20, 99)), old.Flush())
		is(t, old, x, 1, append(slices.Clone(pieces[:i]), sized(20, 99)))
		all := bytesOf(pieces)
		for at := (told[i].Length + 20 + 63) / 64 * 64; at < len(all); at += 64 {
			want := make([]byte, 64)
			copy(want, all[at:])
			file, block := placeOf(1, at)
			if b, _ := x.Read(file, block); !bytes.Equal(b, want) {
				t.Fatalf("block %d of file %d, behind what was written, has changed", block, file)
			}
		}
	}
}

// Whatever stands behind an extent, in its last block, in others, in other files, is let be.
func TestP11_1_BytesBehindTheExtent(t *testing.T) {
	for _, size := range []int{9, 63, 64, 65, 1000, 1024, 1030} {
		p := sized(size, 1)
		for _, behind := range []byte{0, 1, 0xe5, 255} {
			s := slate.New()
			b := append(framed(p), bytes.Repeat([]byte{behind}, 2000)...)
			for at := 0; at < len(b); at += 64 {
				file, block := placeOf(4, at)
				ok(t, s.Write(file, block, b[at:min(at+64, len(b))]))
			}
			ok(t, s.Write(3, 0, []byte{behind}), s.Write(0, 0, []byte{behind}))
			for _, file := range s.Files() {
				ok(t, s.Flush(file))
			}
			l := holds(t, s, extentOf(4, b[:size]), []frame.Piece{p})
			stands(t, s, 4, b)
			if s.Pending() != 0 || !slices.Equal(l.Files(), filesOf(4, size)) {
				t.Errorf("%d pending, files %v", s.Pending(), l.Files())
			}
			ok(t, l.Append(frame.Piece{Kind: 3}), l.Flush())
			is(t, l, s, 4, []frame.Piece{p, {Kind: 3}})
			holds(t, s.Crash(nil), l.Extent(), []frame.Piece{p, {Kind: 3}})
		}
	}
}

// An extent of each length: it is one, just if it ends where a frame ends.
func TestP11_1_ExtentsOfEachLength(t *testing.T) {
	pieces := []frame.Piece{sized(9, 1), sized(55, 2), sized(100, 3), sized(9, 4), sized(1000, 5), sized(27, 6)}
	all := bytesOf(pieces)
	s := slate.New()
	l := made(t, s, 2)
	ends := map[int]int{0: 0}
	for i, p := range pieces {
		ok(t, l.Append(p))
		ends[l.Extent().Length] = i + 1
	}
	ok(t, l.Flush())
	for length := range len(all) + 1 {
		x := extentOf(2, all[:length])
		if n, is := ends[length]; is {
			holds(t, s, x, pieces[:n])
		} else {
			refused(t, s, x, api.ErrRot, "an extent that ends within a frame")
		}
		for _, turn := range []uint32{1, 1 << 31, 0xffffffff} {
			refused(t, s, ledger.Extent{First: 2, Length: length, Sum: x.Sum ^ turn}, api.ErrRot, "another sum")
		}
		for _, first := range []int{1, 3, 1500} {
			if length > 0 {
				refused(t, s, extentOf(first, all[:length]), api.ErrRot, "another first file")
			}
		}
	}
	for length := len(all) + 1; length < len(all)+200; length++ {
		refused(t, s, extentOf(2, append(slices.Clone(all), make([]byte, length-len(all))...)), api.ErrRot, "noughts behind")
	}
}

func TestP11_1_WrongLengths(t *testing.T) {
	s := slate.New()
	l := made(t, s, 1)
	ok(t, l.Append(piece(60, 1)), l.Flush())
	for _, n := range []int{least, -131072, -69, -1, 131073, 131074, 1 << 20, 1<<32 + 69, greatest} {
		x := l.Extent()
		x.Length = n
		refused(t, s, x, api.ErrRange, "length")
		x.First, x.Sum = 0, 5
		refused(t, s, x, api.ErrRange, "first and length")
	}
	for _, n := range []int{1, 8, 68, 70, 100, 131071, 131072} {
		x := l.Extent()
		x.Length = n
		refused(t, s, x, api.ErrRot, "length")
	}
}

// Bytes that have the sum that is told, but aren't just frames.
func TestP11_1_NoFrames(t *testing.T) {
	good := framed(piece(20, 1))
	spoilt := func(at int) []byte {
		b := bytes.Clone(good)
		b[at] ^= 4
		return b
	}
	for i, b := range [][]byte{{0}, {0xe5}, make([]byte, 9), make([]byte, 100), good[1:], good[:len(good)-1], spoilt(0), spoilt(1), spoilt(3), spoilt(4), spoilt(10), spoilt(len(good) - 1), append(bytes.Clone(good), 0), append(bytes.Clone(good), spoilt(7)...), append(spoilt(7), good...), append([]byte{1}, good...), slices.Concat(good, []byte{0}, good), bytes.Repeat([]byte{0xe5}, 2000)} {
		s := slate.New()
		for at := 0; at < len(b); at += 64 {
			file, block := placeOf(1, at)
			ok(t, s.Write(file, block, b[at:min(at+64, len(b))]))
		}
		refused(t, s, extentOf(1, b), api.ErrRot, "bytes", i)
	}
	// The most that an extent may tell, of noughts.
	for _, first := range []int{1, lastFirst} {
		refused(t, slate.New(), extentOf(first, make([]byte, most)), api.ErrRot, "noughts")
	}
}

// A ledger of 131072 bytes, and one more.
func TestP11_1_TheMost(t *testing.T) {
	for _, first := range []int{1, lastFirst} {
		for _, short := range []int{0, 1, 8, 9, 10} {
			s := slate.New()
			l := made(t, s, first)
			pieces := []frame.Piece{piece(inside, 1), sized(most-inside-9-short, 2)}
			ok(t, l.Append(pieces[0]))
			if e := l.Append(sized(most-inside-9+1, 3)); e != api.ErrFull {
				t.Errorf("one more than the most: %d", e)
			}
			is(t, l, s, first, pieces[:1])
			ok(t, l.Append(pieces[1]))
			is(t, l, s, first, pieces)
			e := l.Append(frame.Piece{Kind: 3})
			if short >= 9 {
				pieces = append(pieces, frame.Piece{Kind: 3})
			}
			if (e == api.OK) != (short >= 9) || e != api.OK && e != api.ErrFull {
				t.Errorf("nine bytes more, of which there is room for %d: %d", short, e)
			}
			is(t, l, s, first, pieces)
			ok(t, l.Flush())
			x := s.Crash(nil)
			l = holds(t, x, l.Extent(), pieces)
			is(t, l, x, first, pieces)
			if len(l.Files()) != 128 || l.Files()[127] != first+127 {
				t.Errorf("%d files", len(l.Files()))
			}
			if e := l.Append(sized(11, 4)); e != api.ErrFull || x.Pending() != 0 {
				t.Errorf("more than an opened ledger may have: %d, %d pending", e, x.Pending())
			}
		}
	}
}

// A piece whose frame can't be sealed.
func TestP11_1_TooGreatAPiece(t *testing.T) {
	s := slate.New()
	l := made(t, s, 1)
	ok(t, l.Append(piece(5, 1)))
	for _, n := range []int{inside + 1, inside + 2, most, 1 << 20} {
		if e := l.Append(piece(n, 2)); e != api.ErrFull || s.Pending() != 1 {
			t.Errorf("Append of %d bytes: %d, %d pending", n, e, s.Pending())
		}
		is(t, l, s, 1, []frame.Piece{piece(5, 1)})
	}
	ok(t, l.Append(piece(inside, 3)))
	is(t, l, s, 1, []frame.Piece{piece(5, 1), piece(inside, 3)})
}

// Two ledgers on one slate, each on files of its own.
func TestP11_1_TwoLedgers(t *testing.T) {
	s := slate.New()
	a, b := made(t, s, 1), made(t, s, 4)
	var of, by []frame.Piece
	for i := range 20 {
		of, by = append(of, sized(50+i, i)), append(by, sized(40+i, 100+i))
		ok(t, a.Append(of[i]), b.Append(by[i]))
		is(t, a, s, 1, of)
		is(t, b, s, 4, by)
	}
	ok(t, a.Flush())
	x := s.Crash(nil)
	holds(t, x, a.Extent(), of)
	refused(t, x, b.Extent(), api.ErrRot, "it wasn't flushed")
	ok(t, b.Flush())
	holds(t, s.Crash(nil), b.Extent(), by)
}

// filled has blocks on files, flushed.
func filled(t *testing.T, files ...int) *slate.Slate {
	t.Helper()
	s := slate.New()
	for _, file := range files {
		ok(t, s.Write(file, 0, []byte{byte(file), 1}), s.Write(file, 15, nil), s.Flush(file))
	}
	return s
}

func TestP11_1_Remove(t *testing.T) {
	for _, c := range []struct{ remove, left []int }{
		{nil, []int{0, 1, 2, 5, 4095}}, {[]int{1}, []int{0, 2, 5, 4095}}, {[]int{5, 1}, []int{0, 2, 4095}}, {[]int{4095, 0, 2, 1, 5}, nil}, {[]int{3}, []int{0, 1, 2, 5, 4095}}, {[]int{3, 2, 4}, []int{0, 1, 5, 4095}}, {[]int{2, 2, 2}, []int{0, 1, 5, 4095}},
	} {
		for budget := range len(c.remove) + 2 {
			s := filled(t, 0, 1, 2, 5, 4095)
			ok(t, s.Write(1, 3, []byte("p")), s.Write(2, 3, []byte("p")), s.Arm(budget))
			e := ledger.Remove(s, c.remove)
			if (e == api.OK) != (budget >= len(c.remove)) || e != api.OK && e != api.ErrDead || s.Dead() != (e == api.ErrDead) {
				t.Errorf("Remove of %v with a budget of %d: %d, dead %v", c.remove, budget, e, s.Dead())
			}
			left := []int{0, 1, 2, 5, 4095}
			for _, file := range c.remove[:min(budget, len(c.remove))] { // those ahead are gone
				left = slices.DeleteFunc(left, func(x int) bool { return x == file })
			}
			if e == api.OK && !slices.Equal(left, c.left) {
				t.Fatalf("a test of %v, %v", left, c.left)
			}
			for _, x := range []*slate.Slate{s, s.Crash(nil), s.Crash([]bool{true, true})} {
				if !slices.Equal(x.Files(), left) {
					t.Errorf("Remove of %v with a budget of %d leaves %v, want %v", c.remove, budget, x.Files(), left)
				}
				for _, file := range left {
					if b, _ := x.Read(file, 0); b[0] != byte(file) || b[1] != 1 || x.Blocks(file) != 16 {
						t.Errorf("file %d has changed", file)
					}
				}
			}
			// As many steps as files.
			if e == api.OK && budget > len(c.remove) && (s.Flush(0) != api.OK || s.Flush(0) != api.ErrDead) {
				t.Errorf("Remove of %v takes other steps than one a file", c.remove)
			}
		}
	}
}

// Files that can't be: what isn't told to go stays.
func TestP11_1_RemoveOutOfRange(t *testing.T) {
	for _, file := range []int{least, -4096, -1, 4096, 4097, 1 << 32, 1<<32 + 1, greatest} {
		s := filled(t, 0, 1, 2, 4095)
		ledger.Remove(s, []int{file})
		if fmt.Sprint(s.Files()) != "[0 1 2 4095]" {
			t.Errorf("Remove of %d leaves %v", file, s.Files())
		}
		ledger.Remove(s, []int{1, file})
		if fmt.Sprint(s.Files()) != "[0 2 4095]" && fmt.Sprint(s.Files()) != "[0 1 2 4095]" {
			t.Errorf("Remove of 1 and %d leaves %v", file, s.Files())
		}
	}
}

// The files of a ledger, removed, are gone, and no others.
func TestP11_1_RemoveALedgersFiles(t *testing.T) {
	s := filled(t, 0, 1, 5)
	l := made(t, s, 2)
	ok(t, l.Append(sized(3000, 1)), l.Flush())
	if fmt.Sprint(s.Files(), l.Files()) != "[0 1 2 3 4 5] [2 3 4]" {
		t.Errorf("files %v, of the ledger %v", s.Files(), l.Files())
	}
	ok(t, ledger.Remove(s, l.Files()))
	if fmt.Sprint(s.Files()) != "[0 1 5]" {
		t.Errorf("files %v", s.Files())
	}
	refused(t, s, l.Extent(), api.ErrRot, "its files are gone")
}

func TestP11_1_Files(t *testing.T) {
	for _, first := range []int{1, 10, lastFirst} {
		for _, c := range []struct{ size, files int }{{0, 1}, {9, 1}, {1023, 1}, {1024, 1}, {1025, 2}, {2048, 2}, {2049, 3}, {10240, 10}, {10241, 11}} {
			s := slate.New()
			l := made(t, s, first)
			if c.size > 0 {
				ok(t, l.Append(sized(c.size, 1)))
			}
			want := make([]int, c.files)
			for i := range want {
				want[i] = first + i
			}
			if !slices.Equal(l.Files(), want) {
				t.Errorf("the files of %d bytes from %d on: %v, want %v", c.size, first, l.Files(), want)
			}
			ok(t, l.Flush())
			x, _, _ := ledger.Open(s, l.Extent())
			if !slices.Equal(x.Files(), want) {
				t.Errorf("opened: the files of %d bytes from %d on: %v, want %v", c.size, first, x.Files(), want)
			}
		}
	}
}
