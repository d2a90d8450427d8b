package peg_test

import (
	"bytes"
	"encoding/binary"
	"hash/crc32"
	"slices"
	"testing"

	"spinney/api"
	"spinney/peg"
	"spinney/slate"
)

// What stands here makes blocks of pegs by hand, and looks at slates, as the chapter's words have it.

// sealed is 60 bytes, and their sum.
func sealed(b []byte) []byte {
	return binary.BigEndian.AppendUint32(bytes.Clone(b), crc32.Checksum(b, crc32.MakeTable(crc32.Castagnoli)))
}

// ahead: what stands ahead of the sum, of any first byte, turn, how many bytes are told, and what stands there.
func ahead(first byte, turn uint64, size int, what []byte) []byte {
	b := binary.BigEndian.AppendUint64([]byte{first}, turn)
	b = append(append(b, byte(size)), what...)
	return append(b, make([]byte, 60-len(b))...)
}

// handBlock is a block of a peg.
func handBlock(turn int, what []byte) []byte {
	return sealed(ahead(0x4d, uint64(turn), len(what), what))
}

var noughts = make([]byte, 64)

// slateOf has two blocks as they are told, flushed; a blank one isn't written.
func slateOf(t *testing.T, blocks ...[]byte) *slate.Slate {
	t.Helper()
	s := slate.New()
	for i, b := range blocks {
		if !bytes.Equal(b, noughts) {
			ok(t, s.Write(0, i, b))
		}
	}
	ok(t, s.Flush(0))
	return s
}

// blocksOf are both blocks of a peg, as they are seen.
func blocksOf(s *slate.Slate) [2][]byte {
	a, _ := s.Read(0, 0)
	b, _ := s.Read(0, 1)
	return [2][]byte{a, b}
}

// stands fails, if both blocks aren't just these, or anything else stands on a slate.
func stands(t *testing.T, s *slate.Slate, want ...[]byte) {
	t.Helper()
	for i, b := range blocksOf(s) {
		if !bytes.Equal(b, want[i]) {
			t.Errorf("block %d: % x, want % x", i, b, want[i])
		}
	}
	if s.Blocks(0) > 2 || len(s.Files()) > 1 || len(s.Files()) == 1 && s.Files()[0] != 0 {
		t.Errorf("%d blocks of file 0; files %v", s.Blocks(0), s.Files())
	}
}

// ok fails, if one of these errors is one.
func ok(t *testing.T, all ...api.Errno) {
	t.Helper()
	for i, e := range all {
		if e != api.OK {
			t.Fatalf("call %d: %d", i, e)
		}
	}
}

// opened is a slate's peg.
func opened(t *testing.T, s *slate.Slate) *peg.Peg {
	t.Helper()
	p, e := peg.Open(s)
	if e != api.OK || p == nil {
		t.Fatalf("Open: %d; the blocks % x", e, blocksOf(s))
	}
	return p
}

// is fails, if a peg isn't of this turn, and these bytes.
func is(t *testing.T, p *peg.Peg, turn int, b []byte) {
	t.Helper()
	if p.Turn() != turn || !bytes.Equal(p.Bytes(), b) {
		t.Errorf("turn %d, % x; want %d, % x", p.Turn(), p.Bytes(), turn, b)
	}
}

// rotten fails, if a slate's peg is told.
func rotten(t *testing.T, s *slate.Slate, why ...any) {
	t.Helper()
	if p, e := peg.Open(s); e != api.ErrRot || p != nil {
		t.Errorf("%v: Open: %v, %d; the blocks % x", why, p, e, blocksOf(s))
	}
}

// some: n bytes, that are others each time.
func some(n, seed int) []byte {
	b := make([]byte, n)
	for i := range b {
		b[i] = byte(1 + i*7 + seed*31)
	}
	return b
}

// masks are all ways in which n writes may be kept.
func masks(n int) [][]bool {
	all := [][]bool{nil}
	for i := range 1 << n {
		keep := make([]bool, n)
		for j := range keep {
			keep[j] = i>>j&1 == 1
		}
		all = append(all, keep)
	}
	return append(all, slices.Repeat([]bool{true}, n+5))
}
