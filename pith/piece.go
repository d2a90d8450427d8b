package pith

import (
	"math"

	"spinney/api"
	"spinney/frame"
	"spinney/pack"
	"spinney/roll"
)

// stateKind is the kind of a state's piece.
const stateKind = 9

// PutEntry: its piece.
func PutEntry(e Entry) frame.Piece {
	b := pack.Int(nil, e.N)
	b = pack.Number(b, uint64(e.Start))
	b = pack.Number(b, uint64(e.End))
	there := e.Write != api.Write{}
	b = pack.Flag(b, there)
	if there {
		b = pack.Write(b, e.Write)
	}
	b = roll.PutLines(b, e.Lines)
	b = roll.PutCells(b, e.Cells)
	b = roll.PutLasts(b, e.Lasts)
	return frame.Piece{Kind: byte(e.Kind), Inside: pack.Writes(b, e.Tail)}
}

// TakeEntry: that of a piece.
func TakeEntry(p frame.Piece) (Entry, api.Errno) {
	e := Entry{Kind: int(p.Kind)}
	r := taker{Reader: pack.Open(p.Inside)}
	e.N = r.Int()
	e.Start, e.End = r.number(), r.number()
	if r.Flag() {
		e.Write = r.Write()
	}
	e.Lines = taken(&r, roll.TakeLines)
	e.Cells = taken(&r, roll.TakeCells)
	e.Lasts = taken(&r, roll.TakeLasts)
	e.Tail = r.Writes(math.MaxInt)
	if !r.right() || !isEntry(e) {
		return Entry{}, api.ErrForm
	}
	return e, api.OK
}

// PutState: its piece.
func PutState(s State) frame.Piece {
	var b []byte
	for _, n := range []int{s.Node, s.Life, s.Room} {
		b = pack.Number(b, uint64(n))
	}
	b = pack.Int(b, s.Parent)
	b = roll.PutReach(b, s.Reach)
	b = pack.Number(b, uint64(s.Stem.Base))
	b = pack.Number(b, uint64(s.Stem.End))
	b = roll.PutCells(b, s.Stem.Cells)
	b = roll.PutLasts(b, s.Stem.Lasts)
	b = roll.PutLines(b, s.Stem.Lines)
	b = pack.Writes(b, s.Tail)
	return frame.Piece{Kind: stateKind, Inside: pack.Writes(b, s.Queue)}
}

// TakeState: that of a piece.
func TakeState(p frame.Piece) (State, api.Errno) {
	var s State
	r := taker{Reader: pack.Open(p.Inside)}
	s.Node, s.Life, s.Room = r.number(), r.number(), r.number()
	s.Parent = r.Int()
	s.Reach = taken(&r, roll.TakeReach)
	s.Stem.Base, s.Stem.End = r.number(), r.number()
	s.Stem.Cells = taken(&r, roll.TakeCells)
	s.Stem.Lasts = taken(&r, roll.TakeLasts)
	s.Stem.Lines = taken(&r, roll.TakeLines)
	s.Tail = r.Writes(math.MaxInt)
	s.Queue = r.Writes(math.MaxInt)
	if p.Kind != stateKind || !r.right() || !Good(s) {
		return State{}, api.ErrForm
	}
	return s, api.OK
}

// taker is a reader that remembers whether a list that was taken wasn't good, which need not be an error of the reader's.
type taker struct {
	*pack.Reader
	wrong bool
}

// number takes one that is an int as it is.
func (r *taker) number() int {
	return int(r.Number(math.MaxInt))
}

// right tells whether all was taken, and good.
func (r *taker) right() bool {
	return !r.wrong && r.End() == api.OK
}

// taken takes what one of roll's calls takes.
func taken[T any](r *taker, take func(*pack.Reader) (T, api.Errno)) T {
	x, e := take(r.Reader)
	r.wrong = r.wrong || e != api.OK
	return x
}
