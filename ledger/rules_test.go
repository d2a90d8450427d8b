package ledger_test

import (
	"bytes"
	"math/rand"
	"slices"
	"strconv"
	"testing"

	"spinney/api"
	"spinney/frame"
	"spinney/ledger"
	"spinney/slate"
)

// numbers: whatever a file, or a length may be told as.
func numbers() []int {
	return []int{least, least + 1, -1 << 32, -131072, -1, 0, 1, 2, 9, 64, 68, 69, 70, 1024, 3000, 3001, 4095, 4096, 131071, 131072, 131073, 1 << 31, 1 << 32, 1<<32 + 1, greatest - 1, greatest}
}

// All calls end, and none panics; of a ledger that was refused, too.
func TestP9_AnyArguments(t *testing.T) {
	s := slate.New()
	l := made(t, s, 1)
	ok(t, l.Append(piece(60, 1)), l.Flush())
	for _, m := range numbers() {
		ledger.New(s, m)
		ledger.Remove(s.Crash(nil), []int{m, m, 1, m})
		for _, n := range numbers() {
			for _, sum := range []uint32{0, 1, l.Extent().Sum, 0xffffffff} {
				x := ledger.Extent{First: m, Length: n, Sum: sum}
				if o, pieces, e := ledger.Open(s, x); e == api.OK {
					if m < 1 || m > lastFirst || n < 0 || n > most || len(pieces) > 1 {
						t.Errorf("Open of %v: %d pieces", x, len(pieces))
					}
					o.Files()
					o.Extent()
				}
			}
		}
	}
	for budget := range 6 {
		s := slate.New()
		l := made(t, s, lastFirst)
		ok(t, l.Append(sized(1000, 1)), s.Arm(budget))
		for i := range 200 {
			for _, p := range []frame.Piece{{}, piece(i*10, i), piece(inside, i), piece(inside+1, i)} {
				l.Append(p)
				l.Flush()
				l.Extent()
				l.Files()
			}
			if i == 100 {
				ok(t, s.Arm(5))
			}
		}
		ledger.Remove(s, l.Files())
	}
}

// Bytes by chance, told with their sum, end soon, too.
func TestP9_AnyBytes(t *testing.T) {
	r := rand.New(rand.NewSource(99))
	for i := range 300 {
		s := slate.New()
		b := make([]byte, 1+r.Intn(3000))
		r.Read(b)
		for at := 0; at < len(b); at += 5 + r.Intn(60) {
			b[at] = 0xe5
			if at+3 < len(b) && i%2 == 0 {
				b[at+2], b[at+3] = 0, 0
			}
		}
		for at := 0; at < len(b); at += 64 {
			file, block := placeOf(1, at)
			ok(t, s.Write(file, block, b[at:min(at+64, len(b))]))
		}
		refused(t, s, extentOf(1, b), api.ErrRot, i)
	}
}

// Many calls end soon, too.
func TestP9_ManyCalls(t *testing.T) {
	s := slate.New()
	l := made(t, s, 1)
	n := 0
	for ; l.Append(frame.Piece{Kind: byte(n)}) == api.OK; n++ {
		ok(t, l.Flush())
	}
	if n != most/9 {
		t.Errorf("%d pieces", n)
	}
	_, pieces, e := ledger.Open(s.Crash(nil), l.Extent())
	if e != api.OK || len(pieces) != n || pieces[n-1].Kind != byte(n-1) {
		t.Errorf("Open: %d, %d pieces", e, len(pieces))
	}
	files := make([]int, 1<<17)
	for i := range files {
		files[i] = i % 4096
	}
	ok(t, ledger.Remove(s, files))
	if len(s.Files()) != 0 {
		t.Errorf("files %v", s.Files())
	}
}

// R1.
func TestP10_R1_IntHas64Bits(t *testing.T) {
	if strconv.IntSize != 64 {
		t.Errorf("an int has %d bits", strconv.IntSize)
	}
	s := slate.New()
	l := made(t, s, 1)
	ok(t, l.Append(piece(60, 1)))
	for _, n := range []int{1 << 32, -1 << 32} {
		x := l.Extent()
		x.Length += n
		refused(t, s, x, api.ErrRange, "length")
		x = l.Extent()
		x.First += n
		refused(t, s, x, api.ErrRange, "first")
		if _, e := ledger.New(s, 1+n); e != api.ErrRange {
			t.Errorf("New at %d: %d", 1+n, e)
		}
	}
}

// R2: what is wrong in two ways is answered by the error that is named first; what is full takes no step.
func TestP10_R2_TheFirstError(t *testing.T) {
	s := slate.New()
	l := made(t, s, 1)
	ok(t, l.Append(piece(inside, 1)), s.Arm(0))
	pending := s.Pending()
	for _, n := range []int{inside + 1, inside, most - inside - 9 - 9 + 1} {
		if e := l.Append(piece(n, 2)); e != api.ErrFull || s.Dead() || s.Pending() != pending {
			t.Errorf("Append of %d bytes, with the budget 0: %d, dead %v", n, e, s.Dead())
		}
	}
	is(t, l, s, 1, []frame.Piece{piece(inside, 1)})
	s = slate.New()
	for _, x := range []ledger.Extent{{First: 0, Length: -1, Sum: 5}, {First: 0, Length: 5, Sum: 5}, {First: 1, Length: -1, Sum: 5}, {First: 3001, Length: most + 1}, {First: 1, Length: most + 1}} {
		refused(t, s, x, api.ErrRange, "range, and another sum")
	}
	// Open takes no step, so it has nothing that a dead slate could refuse.
	ok(t, s.Arm(0))
	s.Flush(1)
	holds(t, s, ledger.Extent{First: 1}, nil)
	refused(t, s, ledger.Extent{First: 1, Sum: 1}, api.ErrRot, "on a dead slate")
}

// R3: beside an error stands the zero value, however much of the extent is right.
func TestP10_R3_BesideAnError(t *testing.T) {
	s := slate.New()
	l := made(t, s, 1)
	ok(t, l.Append(sized(100, 1)), l.Append(sized(100, 2)), l.Append(sized(100, 3)))
	all := bytesOf([]frame.Piece{sized(100, 1), sized(100, 2), sized(100, 3)})
	for length := range 300 {
		if length%100 > 0 {
			refused(t, s, extentOf(1, all[:length]), api.ErrRot, length)
		}
		refused(t, s, ledger.Extent{First: 1, Length: length, Sum: handSum(all[:length]) + 1}, api.ErrRot, length)
	}
}

// R4: a call that answers an error has changed nothing, but that a step was refused.
func TestP10_R4_NothingHasChanged(t *testing.T) {
	s := slate.New()
	l := made(t, s, 1)
	pieces := []frame.Piece{sized(70, 1), piece(inside, 2), sized(500, 3)}
	ok(t, l.Append(pieces[0]), l.Append(pieces[1]), l.Flush(), l.Append(pieces[2]))
	pending := s.Pending()
	for range 3 {
		for _, n := range []int{inside + 1, inside, most - 70 - inside - 9 - 500 - 8} {
			if e := l.Append(piece(n, 9)); e != api.ErrFull {
				t.Errorf("Append of %d bytes: %d", n, e)
			}
		}
		refused(t, s, ledger.Extent{First: 1, Length: 70}, api.ErrRot)
		refused(t, s, ledger.Extent{First: 1, Length: -70}, api.ErrRange)
		is(t, l, s, 1, pieces)
		if s.Pending() != pending || s.Dead() {
			t.Errorf("%d pending, want %d", s.Pending(), pending)
		}
	}
	ok(t, l.Flush())
	holds(t, s.Crash(nil), l.Extent(), pieces)
}

// R5: a list that is nil means the same as one that is empty.
func TestP10_R5_EmptyAndNil(t *testing.T) {
	var first *slate.Slate
	for _, b := range [][]byte{nil, {}, make([]byte, 0, 60), []byte("abc")[:0]} {
		s := slate.New()
		l := made(t, s, 1)
		ok(t, l.Append(frame.Piece{Kind: 7, Inside: b}))
		is(t, l, s, 1, []frame.Piece{{Kind: 7}})
		holds(t, s, l.Extent(), []frame.Piece{{Kind: 7}})
		first = s
	}
	for _, files := range [][]int{nil, {}, make([]int, 0, 5), []int{1, 2}[:0]} {
		ok(t, first.Arm(0), ledger.Remove(first, files))
		if first.Dead() || first.Blocks(1) != 1 {
			t.Error("Remove of no files is a step")
		}
	}
}

// P11.4, and R6: what is handed in stays, with its spare room.
func TestP11_4_WhatIsHandedInStays(t *testing.T) {
	for _, size := range []int{0, 1, 55, 64, 1500, inside, inside + 1} {
		for _, room := range []int{0, 1, 4, 64, 500} {
			b := piece(size+room, 3).Inside
			was := bytes.Clone(b)
			s := slate.New()
			l := made(t, s, 1)
			l.Append(frame.Piece{Kind: 1, Inside: b[:size]})
			l.Append(frame.Piece{Kind: 2, Inside: b[:min(size, 9)]})
			ok(t, l.Flush())
			if _, pieces, e := ledger.Open(s, l.Extent()); e == api.OK {
				for _, p := range pieces {
					clear(p.Inside[:cap(p.Inside)])
				}
			}
			if !bytes.Equal(b, was) {
				t.Fatalf("%d bytes, %d of spare room: what was handed in has changed", size, room)
			}
		}
	}
	files := []int{3, 1, 2, 9, 9}
	ok(t, ledger.Remove(filled(t, 1, 2, 3, 4), files[:2]), ledger.Remove(filled(t, 1, 2, 3, 4), files))
	if !slices.Equal(files, []int{3, 1, 2, 9, 9}) {
		t.Errorf("the files that were told are %v", files)
	}
}

// P11.4, and R6: what was appended may be changed behind the call.
func TestP11_4_NothingHandedInIsKept(t *testing.T) {
	s := slate.New()
	l := made(t, s, 1)
	var pieces []frame.Piece
	b := make([]byte, 0, 3000)
	for i, n := range []int{1, 30, 64, 100, 1500, 0, 20} {
		p := piece(n, i)
		b = append(b[:0], p.Inside...)
		ok(t, l.Append(frame.Piece{Kind: p.Kind, Inside: b}))
		copy(b[:cap(b)], bytes.Repeat([]byte{9}, cap(b)))
		pieces = append(pieces, p)
		is(t, l, s, 1, pieces)
	}
	ok(t, l.Flush())
	x := holds(t, s.Crash(nil), l.Extent(), pieces)
	clear(b[:cap(b)])
	ok(t, x.Append(piece(3, 3)))
	if x.Extent() != extentOf(1, bytesOf(append(pieces, piece(3, 3)))) {
		t.Error("the ledger has changed with what was appended")
	}
}

// P11.4, and R6: answers are new memory, each list of its own.
func TestP11_4_AnswersAreNewMemory(t *testing.T) {
	s := slate.New()
	l := made(t, s, 1)
	pieces := []frame.Piece{sized(100, 1), sized(9, 2), sized(1500, 3), sized(40, 4)}
	for _, p := range pieces {
		ok(t, l.Append(p))
	}
	ok(t, l.Flush())
	x := l.Extent()
	o, a, _ := ledger.Open(s, x)
	_, b, _ := ledger.Open(s, x)
	for i := range a {
		in := a[i].Inside
		in = append(in[:cap(in)], 1)
		copy(in, bytes.Repeat([]byte{9}, len(in)))
		clear(a[i].Inside[:cap(a[i].Inside)])
		if !same(b, pieces) || !same(a[i+1:], pieces[i+1:]) {
			t.Fatalf("piece %d shares memory", i)
		}
		is(t, o, s, 1, pieces)
		a = append(a[:i], append([]frame.Piece{{}}, a[i+1:]...)...)
	}
	clear(a[:cap(a)])
	is(t, o, s, 1, pieces)
	holds(t, s, x, pieces)
	// What is appended to what was opened stands behind what it has.
	ok(t, o.Append(sized(70, 5)))
	is(t, o, s, 1, append(slices.Clone(pieces), sized(70, 5)))
	for _, y := range []*ledger.Ledger{o, made(t, s, 9)} {
		f, again, want := y.Files(), y.Files(), slices.Clone(y.Files())
		f = append(f[:cap(f)], 1)
		for i := range f {
			f[i] = -1
		}
		first := y.Files()
		first = first[:cap(first)]
		clear(first)
		if !slices.Equal(again, want) || !slices.Equal(y.Files(), want) {
			t.Error("two lists of files share memory")
		}
	}
}

// P11.4: the slate is kept: what is appended stands on just that.
func TestP11_4_TheSlateIsKept(t *testing.T) {
	s := slate.New()
	l := made(t, s, 1)
	ok(t, l.Append(sized(70, 1)), l.Flush())
	x := s.Crash(nil)
	o := holds(t, x, l.Extent(), []frame.Piece{sized(70, 1)})
	ok(t, l.Append(sized(71, 2)), l.Flush(), o.Append(sized(72, 3)), o.Flush())
	is(t, l, s, 1, []frame.Piece{sized(70, 1), sized(71, 2)})
	is(t, o, x, 1, []frame.Piece{sized(70, 1), sized(72, 3)})
	ok(t, ledger.Remove(s, []int{1}))
	is(t, o, x, 1, []frame.Piece{sized(70, 1), sized(72, 3)})
}

// R7: pieces of any kind and bytes.
func TestP10_R7_AnyPieces(t *testing.T) {
	s := slate.New()
	l := made(t, s, 1)
	var pieces []frame.Piece
	for c := range 256 {
		pieces = append(pieces, frame.Piece{Kind: byte(c), Inside: bytes.Repeat([]byte{byte(c)}, c)})
		ok(t, l.Append(pieces[c]), l.Flush())
	}
	is(t, l, s, 1, pieces)
	holds(t, s.Crash(nil), l.Extent(), pieces)
}

// R8: what a call answers hangs on what stands on the slate, and on what the ledger keeps alone.
func TestP10_R8_TheSameAgain(t *testing.T) {
	x, y := slate.New(), slate.New()
	a, b := made(t, x, 7), made(t, y, 7)
	other := made(t, slate.New(), 7)
	for i := range 300 {
		p := sized(9+i*13%150, i)
		e, f := a.Append(p), api.OK
		other.Append(piece(i, 77))
		if f = b.Append(frame.Piece{Kind: p.Kind, Inside: append(make([]byte, 0, i+200), p.Inside...)}); e != f {
			t.Fatalf("two ledgers that do the same: %d, %d", e, f)
		}
		if i%7 == 0 {
			ok(t, a.Flush(), other.Flush(), b.Flush())
		}
		if a.Extent() != b.Extent() || !slices.Equal(a.Files(), b.Files()) || x.Pending() != y.Pending() {
			t.Fatalf("two ledgers that do the same: %v, %v", a.Extent(), b.Extent())
		}
	}
}
