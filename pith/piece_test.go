package pith_test

import (
	"bytes"
	"slices"
	"testing"

	"spinney/api"
	"spinney/frame"
	"spinney/pack"
	"spinney/pith"
	"spinney/roll"
)

// entries are of each kind, and with all parts.
func entries() []pith.Entry {
	return []pith.Entry{
		{Kind: pith.Born, N: 1}, {Kind: pith.Born, N: 1 << 30}, {Kind: pith.Born, N: -1}, {Kind: pith.Born},
		{Kind: pith.Took, Write: write("3/7 cas a 1 \"x\"")}, {Kind: pith.Took},
		{Kind: pith.Grew, Start: 3, End: 300, Lines: lines(3, "1/1 put a 1", "", "2/1 del b"), Tail: writes("5/1 put a 1", "6/40 add b 2")}, {Kind: pith.Grew},
		{Kind: pith.Leapt, N: 4096, Cells: cells("a", 1, "b", -5), Lasts: roll.Lasts{1: 40, 11: 3}, Tail: many(440)},
		{Kind: pith.Moved, N: 11}, {Kind: pith.Cut, N: 17}, {Kind: pith.Cut, N: least}, {Kind: pith.Cut, N: greatest},
	}
}

// handEntry is an entry's piece, by hand.
func handEntry(e pith.Entry) frame.Piece {
	b := pack.Number(pack.Number(pack.Int(nil, e.N), uint64(e.Start)), uint64(e.End))
	if e.Write == (api.Write{}) {
		b = append(b, 0)
	} else {
		b = pack.Write(append(b, 1), e.Write)
	}
	b = roll.PutLasts(roll.PutCells(roll.PutLines(b, e.Lines), e.Cells), e.Lasts)
	return frame.Piece{Kind: byte(e.Kind), Inside: pack.Writes(b, e.Tail)}
}

func handState(s pith.State) frame.Piece {
	b := pack.Number(pack.Number(pack.Number(nil, uint64(s.Node)), uint64(s.Life)), uint64(s.Room))
	b = roll.PutReach(pack.Int(b, s.Parent), s.Reach)
	b = pack.Number(pack.Number(b, uint64(s.Stem.Base)), uint64(s.Stem.End))
	b = roll.PutLines(roll.PutLasts(roll.PutCells(b, s.Stem.Cells), s.Stem.Lasts), s.Stem.Lines)
	return frame.Piece{Kind: 9, Inside: pack.Writes(pack.Writes(b, s.Tail), s.Queue)}
}

func samePiece(a, b frame.Piece) bool { return a.Kind == b.Kind && bytes.Equal(a.Inside, b.Inside) }

func states() []pith.State {
	none, _ := pith.New(1, 0, 1, nil)
	return []pith.State{some(), rootState(), none, with(some(), func(s *pith.State) { s.Tail, s.Life, s.Room = many(440), 1<<30, 400 })}
}

// P17.1, P17.3: as bytes, and back.
func TestP17_3_EntriesThereAndBack(t *testing.T) {
	for _, e := range entries() {
		p := pith.PutEntry(e)
		if !samePiece(p, handEntry(e)) {
			t.Errorf("PutEntry(%v): %v", e, p)
		}
		if x, errno := pith.TakeEntry(p); errno != api.OK || !sameEntry(x, e) {
			t.Errorf("TakeEntry of %v: %v, %d", e, x, errno)
		}
	}
	if p := pith.PutEntry(pith.Entry{Kind: pith.Born, N: 1}); !bytes.Equal(p.Inside, append([]byte{1, 2}, make([]byte, 18)...)) || p.Kind != 1 {
		t.Errorf("Born 1: %v", p)
	}
}

func TestP17_3_StatesThereAndBack(t *testing.T) {
	for _, s := range states() {
		p := pith.PutState(s)
		if !samePiece(p, handState(s)) {
			t.Errorf("PutState(%v): %v", s, p)
		}
		if x, errno := pith.TakeState(p); errno != api.OK || !same(x, s) {
			t.Errorf("TakeState of %v: %v, %d", s, x, errno)
		}
	}
}

// Pieces of another kind.
func TestP17_1_PiecesOfAnotherKind(t *testing.T) {
	for kind := range 256 {
		for _, e := range entries() {
			p := pith.PutEntry(e)
			p.Kind = byte(kind)
			x, errno := pith.TakeEntry(p)
			if kind >= 1 && kind <= 6 {
				continue
			}
			if errno != api.ErrForm || !sameEntry(x, pith.Entry{}) {
				t.Errorf("TakeEntry of a piece of kind %d: %d", kind, errno)
			}
		}
		p := pith.PutState(some())
		p.Kind = byte(kind)
		if s, errno := pith.TakeState(p); (errno == api.OK) != (kind == 9) || errno != api.OK && !same(s, pith.State{}) {
			t.Errorf("TakeState of a piece of kind %d: %d", kind, errno)
		}
	}
}

// takes looks at what is taken of a piece: nothing, or what has just this piece.
func takes(t *testing.T, p frame.Piece, must bool) {
	t.Helper()
	if e, errno := pith.TakeEntry(p); errno == api.OK && (must || !samePiece(pith.PutEntry(e), p)) || errno != api.OK && (errno != api.ErrForm || !sameEntry(e, pith.Entry{})) {
		t.Errorf("TakeEntry of %v: %v, %d", p, e, errno)
	}
	if s, errno := pith.TakeState(p); errno == api.OK && (must || !samePiece(pith.PutState(s), p) || !pith.Good(s)) || errno != api.OK && (errno != api.ErrForm || !same(s, pith.State{})) {
		t.Errorf("TakeState of %v: %v, %d", p, s, errno)
	}
}

// Pieces that are too short, too long, with any byte changed.
func TestP17_1_SpoiltPieces(t *testing.T) {
	var pieces []frame.Piece
	for _, e := range entries() {
		if len(e.Tail) < 100 {
			pieces = append(pieces, pith.PutEntry(e))
		}
	}
	for _, s := range states()[:3] {
		pieces = append(pieces, pith.PutState(s))
	}
	for _, p := range pieces {
		for n := range p.Inside {
			takes(t, frame.Piece{Kind: p.Kind, Inside: p.Inside[:n]}, true)
		}
		for _, more := range []byte{0, 1, 255} {
			takes(t, frame.Piece{Kind: p.Kind, Inside: append(slices.Clone(p.Inside), more)}, true)
		}
		for i := range p.Inside {
			for _, x := range []byte{0, 1, 2, 3, 8, 9, 255, p.Inside[i] + 1, p.Inside[i] - 1, p.Inside[i] ^ 128} {
				b := slices.Clone(p.Inside)
				b[i] = x
				takes(t, frame.Piece{Kind: p.Kind, Inside: b}, false)
			}
		}
	}
}

// Parts that aren't good are none's.
func TestP17_1_PartsThatAreNotGood(t *testing.T) {
	bad := write("1/1 put a 1")
	bad.Id.Seq = 41
	for i, e := range []pith.Entry{
		{Kind: pith.Took, Write: bad}, {Kind: pith.Grew, Lines: append(lines(5, "1/1 put a 1"), lines(4, "1/2 put a 1")...)}, {Kind: pith.Grew, Lines: lines(4096, "1/1 put a 1")}, {Kind: pith.Leapt, Cells: cells("b", 1, "a", 1)}, {Kind: pith.Leapt, Lasts: roll.Lasts{1}}, {Kind: pith.Leapt, Lasts: roll.Lasts{5: 41}}, {Kind: pith.Grew, Tail: []api.Write{bad}}, {Kind: pith.Grew, Start: -1}, {Kind: pith.Grew, End: least},
	} {
		if x, errno := pith.TakeEntry(handEntry(e)); errno != api.ErrForm || !sameEntry(x, pith.Entry{}) {
			t.Errorf("entry %d: %v, %d", i, x, errno)
		}
	}
}
