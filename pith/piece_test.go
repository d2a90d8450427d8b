package pith_test

import (
	"bytes"
	"slices"
	"testing"

	"spinney/api"
	"spinney/frame"
	"spinney/pack"
	"spinney/pith"
	"spinney/roll"
)

// entries are of each kind, with all that it uses, and with as little as may be.
func entries() []pith.Entry {
	return []pith.Entry{
		{Kind: pith.Born, N: 1}, {Kind: pith.Born, N: 1 << 30}, {Kind: pith.Born, N: -1}, {Kind: pith.Born},
		{Kind: pith.Took, Write: write("3/7 cas a 1 \"x\"")},
		{Kind: pith.Grew, Start: 3, End: 300, Lines: lines(3, "1/1 put a 1", "", "2/1 del b"), Tail: writes("5/1 put a 1", "6/40 add b 2")}, {Kind: pith.Grew},
		{Kind: pith.Leapt, N: 4096, Cells: cells("a", 1, "b", -5), Lasts: roll.Lasts{1: 40, 11: 3}, Tail: many(440)}, {Kind: pith.Leapt},
		{Kind: pith.Moved, N: 11}, {Kind: pith.Moved}, {Kind: pith.Cut, N: 17}, {Kind: pith.Cut}, {Kind: pith.Cut, N: least}, {Kind: pith.Cut, N: greatest},
	}
}

// handEntry is an entry's piece, by hand.
func handEntry(e pith.Entry) frame.Piece {
	b := pack.Number(pack.Number(pack.Int(nil, e.N), uint64(e.Start)), uint64(e.End))
	if e.Write == (api.Write{}) {
		b = append(b, 0)
	} else {
		b = pack.Write(append(b, 1), e.Write)
	}
	b = roll.PutLasts(roll.PutCells(roll.PutLines(b, e.Lines), e.Cells), e.Lasts)
	return frame.Piece{Kind: byte(e.Kind), Inside: pack.Writes(b, e.Tail)}
}

func handState(s pith.State) frame.Piece {
	b := pack.Number(pack.Number(pack.Number(nil, uint64(s.Node)), uint64(s.Life)), uint64(s.Room))
	b = roll.PutReach(pack.Int(b, s.Parent), s.Reach)
	b = pack.Number(pack.Number(b, uint64(s.Stem.Base)), uint64(s.Stem.End))
	b = roll.PutLines(roll.PutLasts(roll.PutCells(b, s.Stem.Cells), s.Stem.Lasts), s.Stem.Lines)
	return frame.Piece{Kind: 9, Inside: pack.Writes(pack.Writes(b, s.Tail), s.Queue)}
}

func samePiece(a, b frame.Piece) bool { return a.Kind == b.Kind && bytes.Equal(a.Inside, b.Inside) }

func states() []pith.State {
	none, _ := pith.New(1, 0, 1, nil)
	return []pith.State{some(), rootState(), none, with(some(), func(s *pith.State) { s.Tail, s.Life, s.Room = many(440), 1<<30, 400 })}
}

// P17.1, P17.3: as bytes, and back.
func TestP17_3_EntriesThereAndBack(t *testing.T) {
	for _, e := range entries() {
		p := pith.PutEntry(e)
		if !samePiece(p, handEntry(e)) {
			t.Errorf("PutEntry(%v): %v", e, p)
		}
		if x, errno := pith.TakeEntry(p); errno != api.OK || !sameEntry(x, e) {
			t.Errorf("TakeEntry of %v: %v, %d", e, x, errno)
		}
	}
	if p := pith.PutEntry(pith.Entry{Kind: pith.Born, N: 1}); !bytes.Equal(p.Inside, append([]byte{1, 2}, make([]byte, 18)...)) || p.Kind != 1 {
		t.Errorf("Born 1: %v", p)
	}
}

func TestP17_3_StatesThereAndBack(t *testing.T) {
	for _, s := range states() {
		p := pith.PutState(s)
		if !samePiece(p, handState(s)) {
			t.Errorf("PutState(%v): %v", s, p)
		}
		if x, errno := pith.TakeState(p); errno != api.OK || !same(x, s) {
			t.Errorf("TakeState of %v: %v, %d", s, x, errno)
		}
	}
}

// Pieces of another kind: of an entry's one of those that use all that it has, too.
func TestP17_1_PiecesOfAnotherKind(t *testing.T) {
	for kind := range 256 {
		for _, e := range entries() {
			p := pith.PutEntry(e)
			p.Kind = byte(kind)
			takesEntry(t, p, ofKind(e, kind))
		}
		p := pith.PutState(some())
		p.Kind = byte(kind)
		if s, errno := pith.TakeState(p); (errno == api.OK) != (kind == 9) || errno != api.OK && !same(s, pith.State{}) {
			t.Errorf("TakeState of a piece of kind %d: %d", kind, errno)
		}
	}
}

// Pieces with any of what an entry may have, good by itself: there is one of which it is, if its kind uses just that; a number may be 0, and a list empty, but a Took without a write has not what it uses.
func TestP17_1_PiecesOfNoEntry(t *testing.T) {
	for kind := range 10 {
		for set := range 1 << len(fields()) {
			e := pith.Entry{Kind: kind}
			for i, f := range fields() {
				if set>>i&1 == 1 {
					f.set(&e)
				}
			}
			takesEntry(t, handEntry(e), e)
		}
	}
}

// Some of these, byte by byte.
func TestP17_1_PiecesOfNoEntryByHand(t *testing.T) {
	w := []byte{1, 3, 1, 7, 1, 2, 1, 1, 'a', 0, 0} // 3/7 del a
	lasts := make([]byte, 12)
	for _, c := range []struct {
		name   string
		kind   byte
		inside [][]byte
		want   api.Errno
	}{
		{"Born 1", 1, [][]byte{{1, 2, 0, 0, 0, 0, 0}, lasts, {0}}, api.OK},
		{"Born 1, Start 1", 1, [][]byte{{1, 2, 1, 1, 0, 0, 0, 0}, lasts, {0}}, api.ErrForm},
		{"Born 1, End 1", 1, [][]byte{{1, 2, 0, 1, 1, 0, 0, 0}, lasts, {0}}, api.ErrForm},
		{"Born 1, a write", 1, [][]byte{{1, 2, 0, 0, 1}, w, {0, 0}, lasts, {0}}, api.ErrForm},
		{"Took", 2, [][]byte{{0, 0, 0, 1}, w, {0, 0}, lasts, {0}}, api.OK},
		{"Took, N 1", 2, [][]byte{{1, 2, 0, 0, 1}, w, {0, 0}, lasts, {0}}, api.ErrForm},
		{"Took, no write", 2, [][]byte{{0, 0, 0, 0, 0, 0}, lasts, {0}}, api.ErrForm},
		{"Grew, a tail", 3, [][]byte{{0, 0, 1, 1, 0, 0, 0}, lasts, {1, 1}, w}, api.OK},
		{"Grew, N -1", 3, [][]byte{{1, 1, 0, 1, 1, 0, 0, 0}, lasts, {0}}, api.ErrForm},
		{"Grew, lasts", 3, [][]byte{{0, 0, 1, 1, 0, 0, 0}, lasts[1:], {1, 1, 0}}, api.ErrForm},
		{"Leapt to 1, lasts", 4, [][]byte{{1, 2, 0, 0, 0, 0, 0}, lasts[1:], {1, 1, 0}}, api.OK},
		{"Leapt to 1, a line", 4, [][]byte{{1, 2, 0, 0, 0, 1, 1, 0}, w, {0}, lasts, {0}}, api.ErrForm},
		{"Moved to 1, a tail", 5, [][]byte{{1, 2, 0, 0, 0, 0, 0}, lasts, {1, 1}, w}, api.ErrForm},
		{"Cut 1", 6, [][]byte{{1, 2, 0, 0, 0, 0, 0}, lasts, {0}}, api.OK},
		{"Cut 1, a cell", 6, [][]byte{{1, 2, 0, 0, 0, 0, 1, 1, 1, 1, 'a', 1, 1, 1, 2}, lasts, {0}}, api.ErrForm},
		{"of kind 0", 0, [][]byte{{1, 2, 0, 0, 0, 0, 0}, lasts, {0}}, api.ErrForm},
		{"of kind 7", 7, [][]byte{{1, 2, 0, 0, 0, 0, 0}, lasts, {0}}, api.ErrForm},
	} {
		p := frame.Piece{Kind: c.kind, Inside: slices.Concat(c.inside...)}
		was := slices.Clone(p.Inside)
		e, errno := pith.TakeEntry(p)
		if errno != c.want || errno != api.OK && !sameEntry(e, pith.Entry{}) || errno == api.OK && !samePiece(pith.PutEntry(e), p) || !bytes.Equal(p.Inside, was) {
			t.Errorf("%s: %v, %d, want %d", c.name, e, errno, c.want)
		}
	}
}

// ofKind is an entry that is said to be of another kind.
func ofKind(e pith.Entry, kind int) pith.Entry {
	e.Kind = kind
	return e
}

// isOne tells by the chapter's table whether what has good parts is an entry.
func isOne(e pith.Entry) bool {
	has := map[string]bool{"N": e.N != 0, "Start": e.Start != 0, "End": e.End != 0, "Write": e.Write != api.Write{}, "Lines": len(e.Lines) > 0, "Cells": len(e.Cells) > 0, "Lasts": e.Lasts != roll.Lasts{}, "Tail": len(e.Tail) > 0}
	for name, there := range has {
		if there && !uses(e.Kind, name) {
			return false
		}
	}
	return e.Kind >= 1 && e.Kind <= 6 && has["Write"] == (e.Kind == pith.Took)
}

// takesEntry looks at what is taken of the piece of good parts: these, if they are an entry.
func takesEntry(t *testing.T, p frame.Piece, e pith.Entry) {
	t.Helper()
	want, wanted := pith.Entry{}, api.ErrForm
	if isOne(e) {
		want, wanted = e, api.OK
	}
	if x, errno := pith.TakeEntry(p); errno != wanted || !sameEntry(x, want) {
		t.Errorf("TakeEntry of the piece of %v: %v, %d, want %d", e, x, errno, wanted)
	}
}

// takes looks at what is taken of a piece: nothing, or what has just this piece.
func takes(t *testing.T, p frame.Piece, must bool) {
	t.Helper()
	if e, errno := pith.TakeEntry(p); errno == api.OK && (must || !samePiece(pith.PutEntry(e), p)) || errno != api.OK && (errno != api.ErrForm || !sameEntry(e, pith.Entry{})) {
		t.Errorf("TakeEntry of %v: %v, %d", p, e, errno)
	}
	if s, errno := pith.TakeState(p); errno == api.OK && (must || !samePiece(pith.PutState(s), p) || !pith.Good(s)) || errno != api.OK && (errno != api.ErrForm || !same(s, pith.State{})) {
		t.Errorf("TakeState of %v: %v, %d", p, s, errno)
	}
}

// Pieces that are too short, too long, with any byte changed.
func TestP17_1_SpoiltPieces(t *testing.T) {
	var pieces []frame.Piece
	for _, e := range entries() {
		if len(e.Tail) < 100 {
			pieces = append(pieces, pith.PutEntry(e))
		}
	}
	for _, s := range states()[:3] {
		pieces = append(pieces, pith.PutState(s))
	}
	for _, p := range pieces {
		for n := range p.Inside {
			takes(t, frame.Piece{Kind: p.Kind, Inside: p.Inside[:n]}, true)
		}
		for _, more := range []byte{0, 1, 255} {
			takes(t, frame.Piece{Kind: p.Kind, Inside: append(slices.Clone(p.Inside), more)}, true)
		}
		for i := range p.Inside {
			for _, x := range []byte{0, 1, 2, 3, 8, 9, 255, p.Inside[i] + 1, p.Inside[i] - 1, p.Inside[i] ^ 128} {
				b := slices.Clone(p.Inside)
				b[i] = x
				takes(t, frame.Piece{Kind: p.Kind, Inside: b}, false)
			}
		}
	}
}

// Parts that aren't good are none's.
func TestP17_1_PartsThatAreNotGood(t *testing.T) {
	bad := write("1/1 put a 1")
	bad.Id.Seq = 41
	for i, e := range []pith.Entry{
		{Kind: pith.Took, Write: bad}, {Kind: pith.Grew, Lines: append(lines(5, "1/1 put a 1"), lines(4, "1/2 put a 1")...)}, {Kind: pith.Grew, Lines: lines(4096, "1/1 put a 1")}, {Kind: pith.Leapt, Cells: cells("b", 1, "a", 1)}, {Kind: pith.Leapt, Lasts: roll.Lasts{1}}, {Kind: pith.Leapt, Lasts: roll.Lasts{5: 41}}, {Kind: pith.Grew, Tail: []api.Write{bad}}, {Kind: pith.Grew, Start: -1}, {Kind: pith.Grew, End: least},
	} {
		if x, errno := pith.TakeEntry(handEntry(e)); errno != api.ErrForm || !sameEntry(x, pith.Entry{}) {
			t.Errorf("entry %d: %v, %d", i, x, errno)
		}
	}
}
