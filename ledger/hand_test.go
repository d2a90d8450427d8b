package ledger_test

import (
	"bytes"
	"encoding/binary"
	"fmt"
	"hash/crc32"
	"slices"
	"testing"

	"spinney/api"
	"spinney/frame"
	"spinney/ledger"
	"spinney/slate"
)

// What stands here makes frames, sums and what stands on files by hand, as the chapter's words have it.

func handSum(b []byte) uint32 { return crc32.Checksum(b, crc32.MakeTable(crc32.Castagnoli)) }

// framed is a frame.
func framed(p frame.Piece) []byte {
	n := len(p.Inside)
	b := append([]byte{0xe5, p.Kind, byte(n >> 16), byte(n >> 8), byte(n)}, p.Inside...)
	return binary.BigEndian.AppendUint32(b, handSum(b))
}

// bytesOf are the bytes of a ledger of these pieces.
func bytesOf(l []frame.Piece) []byte {
	var b []byte
	for _, p := range l {
		b = append(b, framed(p)...)
	}
	return b
}

// extentOf is the extent of bytes from a file on.
func extentOf(first int, b []byte) ledger.Extent {
	return ledger.Extent{First: first, Length: len(b), Sum: handSum(b)}
}

// piece has n bytes, that are others each time.
func piece(n, seed int) frame.Piece {
	b := make([]byte, n)
	for i := range b {
		b[i] = byte(1 + i*7 + i/64*3 + i/1024*5 + seed*31)
	}
	return frame.Piece{Kind: byte(seed), Inside: b}
}

// sized is a piece whose frame has n bytes.
func sized(n, seed int) frame.Piece { return piece(n-9, seed) }

// same tells whether two lists of pieces are.
func same(a, b []frame.Piece) bool {
	return slices.EqualFunc(a, b, func(x, y frame.Piece) bool { return x.Kind == y.Kind && bytes.Equal(x.Inside, y.Inside) })
}

// tell tells pieces: their kinds, and how many bytes they have.
func tell(l []frame.Piece) string {
	s := ""
	for _, p := range l {
		s += fmt.Sprint(" ", p.Kind, ":", len(p.Inside))
	}
	return s
}

// ok fails, if one of these errors is one.
func ok(t *testing.T, all ...api.Errno) {
	t.Helper()
	for i, e := range all {
		if e != api.OK {
			t.Fatalf("call %d: %d", i, e)
		}
	}
}

func made(t *testing.T, s *slate.Slate, first int) *ledger.Ledger {
	t.Helper()
	l, e := ledger.New(s, first)
	if e != api.OK || l == nil {
		t.Fatalf("New at %d: %d", first, e)
	}
	return l
}

// holds fails, if a slate hasn't the ledger of an extent, of just these pieces.
func holds(t *testing.T, s *slate.Slate, x ledger.Extent, want []frame.Piece) *ledger.Ledger {
	t.Helper()
	l, pieces, e := ledger.Open(s, x)
	if e != api.OK || l == nil || !same(pieces, want) {
		t.Fatalf("Open of %v: %d,%s; want%s", x, e, tell(pieces), tell(want))
	}
	if l.Extent() != x {
		t.Fatalf("the extent %v, want %v", l.Extent(), x)
	}
	return l
}

// refused fails, if an extent is opened, or isn't for this error.
func refused(t *testing.T, s *slate.Slate, x ledger.Extent, want api.Errno, why ...any) {
	t.Helper()
	if l, pieces, e := ledger.Open(s, x); e != want || l != nil || len(pieces) != 0 {
		t.Errorf("%v: Open of %v: %v,%s, %d, want %d", why, x, l != nil, tell(pieces), e, want)
	}
}

// placeOf is where a byte of a ledger stands: the file, and its block.
func placeOf(first, at int) (int, int) { return first + at/1024, at % 1024 / 64 }

// stands fails, if from a file on don't stand just these bytes, and noughts behind in the last block.
func stands(t *testing.T, s *slate.Slate, first int, b []byte) {
	t.Helper()
	for at := 0; at < len(b); at += 64 {
		want := make([]byte, 64)
		copy(want, b[at:])
		file, block := placeOf(first, at)
		if x, e := s.Read(file, block); e != api.OK || !bytes.Equal(x, want) {
			t.Fatalf("block %d of file %d: % x, %d, want % x", block, file, x, e, want)
		}
	}
}

// alone fails, if more than the blocks of so many bytes from a file on stands on a slate.
func alone(t *testing.T, s *slate.Slate, first, length int) {
	t.Helper()
	var files []int
	for at := 0; at < length; at += 1024 {
		files = append(files, first+at/1024)
		if want := min(16, (length-at+63)/64); s.Blocks(first+at/1024) != want {
			t.Fatalf("%d blocks of file %d, want %d", s.Blocks(first+at/1024), first+at/1024, want)
		}
	}
	if !slices.Equal(s.Files(), files) {
		t.Fatalf("files %v, want %v", s.Files(), files)
	}
}

// filesOf are those of a ledger of so many bytes.
func filesOf(first, length int) []int {
	l := []int{first}
	for at := 1024; at < length; at += 1024 {
		l = append(l, first+at/1024)
	}
	return l
}

// is fails, if a ledger isn't of these pieces, on this slate.
func is(t *testing.T, l *ledger.Ledger, s *slate.Slate, first int, pieces []frame.Piece) {
	t.Helper()
	b := bytesOf(pieces)
	if l.Extent() != extentOf(first, b) || !slices.Equal(l.Files(), filesOf(first, len(b))) {
		t.Fatalf("of%s: the extent %v, want %v; files %v", tell(pieces), l.Extent(), extentOf(first, b), l.Files())
	}
	stands(t, s, first, b)
}

// blocksWritten is how many blocks have one of the bytes from a place to another one.
func blocksWritten(from, to int) int { return (to+63)/64 - from/64 }

// ways are ways in which n writes may be kept: of few all.
func ways(n int) [][]bool {
	all := [][]bool{nil, slices.Repeat([]bool{true}, n+5)}
	count := 1 << min(n, 8)
	for i := range count {
		keep := make([]bool, n)
		for j := range keep {
			if n <= 8 {
				keep[j] = i>>j&1 == 1
			} else {
				keep[j] = (i*2654435761+j*40503)>>7&1 == 1
			}
		}
		all = append(all, keep)
	}
	return all
}
