package bough

import (
	"errors"
	"slices"

	"spinney/api"
	"spinney/field"
	"spinney/fork"
	"spinney/graft"
	"spinney/letter"
	"spinney/pith"
	"spinney/reach"
	"spinney/spine"
	"spinney/trellis"
)

// Hear: what a letter lets it tell.
func (n *Node) Hear(l letter.Letter) []letter.Letter {
	if errors.Is(n.up(), errDown) {
		return nil
	}
	switch l.Kind {
	case letter.Hello, letter.Offer:
		return n.fromChild(l)
	case letter.Update, letter.Reset:
		n.fromParent(l)
	}
	return nil
}

// fromChild hears a Hello or an Offer.
func (n *Node) fromChild(l letter.Letter) []letter.Letter {
	switch l.Kind {
	case letter.Hello:
		if n.tree[n.number].Kind == trellis.Device || !reach.Covers(n.state.Reach, l.Reach) {
			return nil
		}
		fallthrough
	case letter.Offer:
		switch n.fork.Hear(l) {
		case fork.Nothing:
			return nil
		case fork.Unknown:
			return []letter.Letter{{Kind: letter.Reset, From: n.number, To: l.From, Life: l.Life, Turn: l.Turn}}
		}
		fallthrough
	default:
		return n.answer(l)
	}
}

// answer is what a Hello or an Offer that counts is answered, once it is sure what was taken of it.
func (n *Node) answer(l letter.Letter) []letter.Letter {
	if n.take(l) != api.OK {
		return nil
	}
	return []letter.Letter{n.update(l.From)}
}

// take takes of an Offer what is wanted, as far as it can be, and makes it sure; of a Hello nothing is.
func (n *Node) take(l letter.Letter) api.Errno {
	took := 0
	for _, w := range n.fork.Wants(l) {
		e := n.add(pith.Entry{Kind: pith.Took, Write: w})
		if e != api.OK && e != api.ErrTwice {
			break
		}
		took++
	}
	n.fork.Took(l.From, took)
	return n.settle() // of a vault that was refused ahead of it, that is refused, too
}

// update is an Update to a child.
func (n *Node) update(child int) letter.Letter {
	stamp, _ := n.fork.Stamp(child)
	to, _ := n.fork.Session(child)
	x := n.state.Stem
	l := letter.Letter{Kind: letter.Update, From: n.number, To: child, Life: to.Life, Turn: to.Turn, Stamp: stamp, Taken: to.Taken, Start: min(to.Prefix, x.End), End: x.End}
	if to.Prefix < x.Base {
		l.Snap, l.Start, l.Cells, l.Lasts = true, x.Base, field.Only(x.Cells, to.Reach), x.Lasts
	}
	if s, e := spine.Of(n.state.Reach, x); e == api.OK {
		l.Lines, _ = s.From(l.Start, to.Reach)
	}
	behind := n.view.Sequence()[len(x.Lines):]
	l.Writes = reach.Pick(to.Reach, behind)
	return l
}

// fromParent hears an Update or a Reset.
func (n *Node) fromParent(l letter.Letter) {
	if n.number == root || l.From != n.state.Parent {
		return
	}
	var learnt []pith.Entry
	if l.Kind == letter.Update {
		var fits bool
		if learnt, fits = n.learns(l); !fits {
			return
		}
	}
	if n.graft.Hear(l) == graft.News {
		n.keep(learnt...)
	}
}

// learns are the entries by which it learns what an Update tells, and whether that fits to what it knows.
func (n *Node) learns(l letter.Letter) ([]pith.Entry, bool) {
	var entries []pith.Entry
	x := n.state
	leap := pith.Entry{Kind: pith.Leapt, N: l.Start, Cells: l.Cells, Lasts: l.Lasts, Tail: l.Writes}
	if l.Snap && l.Start > x.Stem.End {
		y, e := pith.Do(x, leap)
		if e != api.OK {
			return nil, false
		}
		x, entries = y, append(entries, leap)
	}
	if l.Start > x.Stem.End || l.End < x.Stem.End {
		return nil, false
	}
	if l.End == x.Stem.End && slices.Equal(l.Writes, x.Tail) {
		return entries, true
	}
	grow := pith.Entry{Kind: pith.Grew, Start: l.Start, End: l.End, Lines: l.Lines, Tail: l.Writes}
	_, e := pith.Do(x, grow)
	return append(entries, grow), e == api.OK
}
