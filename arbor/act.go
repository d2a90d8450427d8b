package arbor

import (
	"errors"
	"strconv"

	"spinney/air"
	"spinney/api"
	"spinney/trellis"
)

// How many rounds a Calm is told in, how many parcels are delivered in one at most, how many bits a Crash tells, and a block has.
const (
	calms     = 64
	mostCalm  = 3000
	crashBits = 30
	blockBits = 8 * api.Block
)

// Act: one step.
type Act struct {
	Kind, A, B, C int
	Op            api.Op
	Key           string
}

// The kinds of acts.
const (
	Write   = 1
	Deliver = 2
	Lose    = 3
	Double  = 4
	Turn    = 5
	Tick    = 6
	Crash   = 7
	Start   = 8
	Move    = 9
	Cut     = 10
	Arm     = 11
	Fail    = 12
	Spoil   = 13
	Watch   = 14
	Calm    = 15
)

// met: what an act meets, of which kind it is, and what is answered for it.
type met struct {
	kind  int
	errno api.Errno
}

// Error tells both.
func (m met) Error() string {
	return "an act of kind " + strconv.Itoa(m.kind) + " meets error " + strconv.Itoa(int(m.errno))
}

// step: the step at which an act met something.
type step struct {
	number int
	what   error
}

// Error tells both.
func (s step) Error() string { return "step " + strconv.Itoa(s.number) + ": " + s.what.Error() }

// Unwrap is what was met alone.
func (s step) Unwrap() error { return s.what }

// Do: an act.
func (a *Arbor) Do(x Act) api.Errno {
	a.steps++
	err := a.done(x)
	a.bury()
	var m met
	if errors.As(err, &m) {
		return m.errno
	}
	return api.OK
}

// done does an act, and tells what it met.
func (a *Arbor) done(x Act) error {
	e := a.act(x)
	if e == api.OK {
		return nil
	}
	return step{a.steps, met{x.Kind, e}}
}

func (a *Arbor) act(x Act) api.Errno {
	switch x.Kind {
	case Deliver:
		return a.deliver(x.A)
	case Lose:
		return a.parcel((*air.Air).Lose, x.A)
	case Double:
		return a.parcel((*air.Air).Double, x.A)
	case Turn:
		return a.air.Turn(x.A, x.B)
	case Write:
		return a.write(x)
	case Tick, Move, Cut, Watch:
		return a.upon(x)
	case Crash, Start, Arm, Fail, Spoil:
		return a.beneath(x)
	case Calm:
		a.calm(uint(x.A) % calms)
		return api.OK
	}
	return api.ErrRange
}

// parcel does something with a parcel.
func (a *Arbor) parcel(how func(*air.Air, int) api.Errno, i int) api.Errno {
	return how(a.air, i)
}

// write is an act of a node's client.
func (a *Arbor) write(x Act) api.Errno {
	var id api.Id
	e := a.reached(x.A)
	if e == api.OK {
		id, e = a.nodes[x.A].Write(x.Op)
	}
	a.record(Record{Step: a.steps, Node: x.A, Op: x.Op, Id: id, Err: e})
	return e
}

// upon does an act upon a node that is up.
func (a *Arbor) upon(x Act) api.Errno {
	if e := a.reached(x.A); e != api.OK {
		return e
	}
	n := a.nodes[x.A]
	switch x.Kind {
	case Move:
		return n.Move(x.B)
	case Cut:
		return n.Cut()
	case Watch:
		return n.Watch(x.Key)
	}
	a.tick(x.A)
	return api.OK
}

// beneath does an act upon a node that may be down, or upon its slate.
func (a *Arbor) beneath(x Act) api.Errno {
	if !a.has(x.A) {
		return api.ErrRange
	}
	s := a.slates[x.A]
	switch x.Kind {
	case Crash:
		a.crash(x.A, uint(x.B))
		return api.OK
	case Start:
		if a.Up(x.A) {
			return api.ErrTwice
		}
		return a.start(x.A)
	case Arm:
		return s.Arm(x.B)
	case Fail:
		return a.fail(x.A)
	}
	if x.B < 0 {
		return api.ErrRange
	}
	return s.Spoil(x.C, x.B/blockBits, x.B%blockBits)
}

// crash has a node go down, with that of what is pending kept of which the bit is 1.
func (a *Arbor) crash(n int, bits uint) {
	keep := make([]bool, a.slates[n].Pending())
	for i := range keep {
		keep[i] = bits>>(i%crashBits)&1 == 1
	}
	a.nodes[n], a.slates[n] = nil, a.slates[n].Crash(keep)
}

// fail has all devices under a hub hang on the node over it.
func (a *Arbor) fail(hub int) api.Errno {
	if a.tree[hub].Kind != trellis.Hub {
		return api.ErrTree
	}
	for n := range a.tree {
		if a.tree[n].Kind == trellis.Device && a.Up(n) && a.nodes[n].State().Parent == hub {
			a.nodes[n].Move(a.tree[hub].Parent)
		}
	}
	return api.OK
}

// calm has so many rounds go on in which nothing happens to parcels and nodes.
func (a *Arbor) calm(rounds uint) {
	for range rounds {
		a.deliverAll()
		for n := range a.nodes {
			if a.Up(n) {
				a.tick(n)
			} else {
				a.start(n)
			}
		}
	}
}

// deliverAll delivers the parcels, the first one first, and those that come of them, as many as a round may.
func (a *Arbor) deliverAll() {
	for range mostCalm {
		if a.deliver(0) != api.OK {
			return
		}
	}
}
