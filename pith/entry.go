package pith

import (
	"errors"

	"spinney/api"
	"spinney/fresh"
	"spinney/queue"
	"spinney/reach"
	"spinney/roll"
	"spinney/roster"
	"spinney/spine"
	"spinney/stamp"
)

var (
	errNoKind = errors.New("an entry of no kind")
	errParts  = errors.New("an entry of other parts than its kind uses")
)

// Entry: by which a state changes.
type Entry struct {
	Kind, N, Start, End int
	Write               api.Write
	Lines               []roll.Line
	Cells               []api.Cell
	Lasts               roll.Lasts
	Tail                []api.Write
}

// The kinds.
const (
	Born  = 1
	Took  = 2
	Grew  = 3
	Leapt = 4
	Moved = 5
	Cut   = 6
)

// isEntry tells whether there is such an entry.
func isEntry(e Entry) bool {
	err := form(e)
	return !errors.Is(err, errNoKind) && !errors.Is(err, errParts)
}

// form looks whether an entry is of a kind, with what that uses, and nothing else.
func form(e Entry) error {
	switch e.Kind {
	case Leapt:
		e.Cells, e.Lasts, e.Tail = nil, roll.Lasts{}, nil
		fallthrough
	case Born, Moved, Cut:
		e.N = 0
	case Took:
		// A number may be 0 and a list empty, but no write is zero: who has that has none.
		if e.Write == (api.Write{}) {
			return errParts
		}
		e.Write = api.Write{}
	case Grew:
		e.Start, e.End, e.Lines, e.Tail = 0, 0, nil, nil
	default:
		return errNoKind
	}
	if e.N != 0 || e.Start != 0 || e.End != 0 || e.Write != (api.Write{}) || e.Lasts != (roll.Lasts{}) || len(e.Lines)+len(e.Cells)+len(e.Tail) > 0 {
		return errParts
	}
	return nil
}

// do does an entry of a good form upon a state of its own; of one that is refused nothing is to be used any more.
func (s *State) do(e Entry) api.Errno {
	switch e.Kind {
	case Born:
		return s.born(e.N)
	case Took:
		return s.take(e.Write)
	case Grew:
		return s.learn(e.Tail, func(x *spine.Spine) api.Errno { return x.Grow(e.Start, e.End, e.Lines) })
	case Leapt:
		return s.learn(e.Tail, func(x *spine.Spine) api.Errno { return x.Leap(e.N, e.Cells, e.Lasts) })
	case Moved:
		return s.move(e.N)
	}
	return s.change(func(x *spine.Spine) api.Errno { return x.Cut(e.N) })
}

func (s *State) born(life int) api.Errno {
	if life <= s.Life || life > mostLife {
		return api.ErrRange
	}
	s.Life = life
	return api.OK
}

func (s *State) move(parent int) api.Errno {
	if s.Node == root {
		return api.ErrTree
	}
	if !isNode(parent) || parent == s.Node {
		return api.ErrRange
	}
	s.Parent = parent
	return api.OK
}

func (s *State) take(w api.Write) api.Errno {
	switch {
	case !stamp.Good(w):
		return api.ErrForm
	case !reach.Has(s.Reach, w.Op.Key):
		return api.ErrReach
	case s.Node == root:
		return s.change(func(x *spine.Spine) api.Errno { return fix(x, w) })
	}
	return s.wait(func(q *queue.Queue) api.Errno { return q.Take(stemLasts(*s), w) })
}

// fix has the order go on by a write.
func fix(x *spine.Spine, w api.Write) api.Errno {
	if e := roster.Ask(x.Lasts(), w.Id); e != api.OK {
		return e
	}
	end := x.End()
	if end == lastEnd {
		return api.ErrFull
	}
	return x.Grow(end, end+1, []roll.Line{{At: end, Write: w}})
}

// learn has the spine change by what a parent tells of the order, with what it tells behind it.
func (s *State) learn(tail []api.Write, how func(*spine.Spine) api.Errno) api.Errno {
	if s.Node == root {
		return api.ErrTree
	}
	if e := s.tailed(tail); e != api.OK {
		return e
	}
	if e := s.change(how); e != api.OK {
		return e
	}
	s.Tail = fresh.Writes(tail)
	return s.wait(func(q *queue.Queue) api.Errno {
		q.Settle(stemLasts(*s))
		return api.OK
	})
}

// tailed looks whether these may be its tail.
func (s *State) tailed(l []api.Write) api.Errno {
	if !goodWrites(l) || len(l) > mostTail || !stamp.Single(l) {
		return api.ErrForm
	}
	if !has(s.Reach, l) {
		return api.ErrReach
	}
	return api.OK
}

// change has the spine change.
func (s *State) change(how func(*spine.Spine) api.Errno) api.Errno {
	x, e := spine.Of(s.Reach, s.Stem)
	if e != api.OK {
		return e
	}
	if e := how(x); e != api.OK {
		return e
	}
	s.Stem = x.Stem()
	return api.OK
}

// wait has the queue change.
func (s *State) wait(how func(*queue.Queue) api.Errno) api.Errno {
	q, e := queue.New(s.Room)
	if e != api.OK {
		return e
	}
	if e := q.Fill(s.Queue); e != api.OK {
		return e
	}
	if e := how(q); e != api.OK {
		return e
	}
	s.Queue = q.List()
	return api.OK
}
