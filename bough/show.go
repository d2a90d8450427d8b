package bough

import (
	"errors"
	"slices"
	"strings"

	"spinney/api"
	"spinney/deed"
	"spinney/fork"
	"spinney/fresh"
	"spinney/reach"
	"spinney/roll"
)

// How many keys may be watched, and how many events are kept.
const (
	mostWatched = 20
	mostEvents  = 64
)

// Report: what is told of a node.
type Report struct {
	Node, Life, Parent, Base, End, Low, Turn int
	Joined                                   bool
	Queue, Tail, Known                       []api.Write
	Cells                                    []api.Cell
	Sessions                                 []fork.Session
}

// Watch: a key.
func (n *Node) Watch(key string) api.Errno {
	switch {
	case errors.Is(n.up(), errDown):
		return api.ErrDown
	case !deed.Key(key) || !reach.Has(n.state.Reach, key):
		return api.ErrReach
	case slices.ContainsFunc(n.watched, func(c api.Cell) bool { return c.Key == key }):
		return api.ErrTwice
	case len(n.watched) == mostWatched:
		return api.ErrFull
	}
	n.watched = append(n.watched, api.Cell{Key: strings.Clone(key), Value: n.view.At(key)})
	return api.OK
}

// Events: what was seen to change.
func (n *Node) Events() []api.Cell {
	if errors.Is(n.up(), errDown) {
		return nil
	}
	told := n.events
	n.events = nil
	return told
}

// Report: what is told of it.
func (n *Node) Report() Report {
	if errors.Is(n.up(), errDown) {
		return Report{Node: n.number}
	}
	x := n.State()
	r := Report{Node: n.number, Life: x.Life, Parent: x.Parent, Base: x.Stem.Base, End: x.Stem.End, Low: n.low(), Joined: true, Queue: x.Queue, Tail: x.Tail, Known: roll.Writes(x.Stem.Lines), Cells: n.view.Cells()}
	if n.number != root {
		r.Turn, r.Joined = n.graft.Turn(), n.graft.Joined()
	}
	for _, child := range n.fork.Children() {
		s, _ := n.fork.Session(child)
		r.Sessions = append(r.Sessions, s)
	}
	return r
}

// notice has an event for each watched key at which something else is seen now.
func (n *Node) notice() {
	for i, c := range n.watched {
		now := n.view.At(c.Key)
		if now == c.Value {
			continue
		}
		n.watched[i].Value = now
		n.events = append(n.events, fresh.Cell(n.watched[i]))
	}
	n.events = slices.Delete(n.events, 0, max(0, len(n.events)-mostEvents))
}
