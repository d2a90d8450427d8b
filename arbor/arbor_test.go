package arbor_test

import (
	"math/rand"
	"slices"
	"strconv"
	"testing"

	"spinney/api"
	"spinney/arbor"
	"spinney/bough"
	"spinney/letter"
	"spinney/pith"
	"spinney/trellis"
)

// does does an act, and looks at its error.
func does(t *testing.T, a *arbor.Arbor, x arbor.Act, want api.Errno) {
	t.Helper()
	steps := a.Steps()
	if e := a.Do(x); e != want {
		t.Fatalf("%+v: %d, want %d", x, e, want)
	}
	if a.Steps() != steps+1 {
		t.Fatalf("%+v: %d steps behind %d", x, a.Steps(), steps)
	}
}

func writes(n int, line string) arbor.Act { return arbor.Act{Kind: arbor.Write, A: n, Op: op(line)} }

// kinds tells the kinds of letters on their way, and from where to where.
func kinds(t *testing.T, a *arbor.Arbor) string {
	t.Helper()
	s := ""
	for _, p := range a.Air() {
		l, e := letter.Decode(p.Bytes)
		if e != api.OK || l.From != p.From || l.To != p.To {
			s += "? "
			continue
		}
		s += string("HOUR"[l.Kind-1]) + strconv.Itoa(l.From) + strconv.Itoa(l.To) + " "
	}
	return s
}

func TestP24_1_Example(t *testing.T) {
	a := made(t, tree("hub 0 *;device 1 *"), 3)
	does(t, a, writes(2, "put a 1"), api.OK)
	does(t, a, arbor.Act{Kind: arbor.Calm, A: 8}, api.OK)
	if v, e := a.Read(0, "a"); e != api.OK || v != num(1) {
		t.Errorf("node 0 reads %v, %d", v, e)
	}
	for n := range 3 {
		if r := a.Report(n); len(r.Queue) != 0 || r.End != 1 {
			t.Errorf("node %d: %v", n, r)
		}
	}
	if h := a.History(); len(h) != 1 || h[0] != (arbor.Record{Step: 1, Node: 2, Op: op("put a 1"), Id: api.Id{Dev: 2, Seq: 1}}) {
		t.Errorf("History: %v", h)
	}
}

func TestP24_1_New(t *testing.T) {
	bad := tree("hub 0 *")
	bad[1].Parent = 1
	for _, c := range []struct {
		x        trellis.Tree
		patience int
		want     api.Errno
	}{{tree(""), 1, api.OK}, {tree("hub 0 *"), 1000, api.OK}, {nil, 5, api.ErrForm}, {bad, 0, api.ErrForm}, {tree(""), 0, api.ErrRange}, {tree(""), 1001, api.ErrRange}, {tree(""), -1, api.ErrRange}, {tree(""), least, api.ErrRange}, {tree(""), greatest, api.ErrRange}} {
		a, e := arbor.New(c.x, c.patience)
		if e != c.want || (a == nil) != (e != api.OK) {
			t.Errorf("New, patience %d: %d, want %d", c.patience, e, c.want)
		}
	}
	for _, x := range forest() {
		a := made(t, x, 3)
		if a.Steps() != 0 || a.Nodes() != len(x) || len(a.Air()) != 0 || len(a.History()) != 0 {
			t.Errorf("a new one: %v", tell(a))
		}
		for n := range x {
			s, e := a.Sure(n)
			if r := a.Report(n); !a.Up(n) || r.Life != 1 || r.Parent != x[n].Parent || e != api.OK || s.Life != 1 || s.Room != trellis.Room(x, n) {
				t.Errorf("node %d: %v", n, r)
			}
		}
	}
}

// Each error of the table, for each kind.
func TestP24_1_Errors(t *testing.T) {
	a := made(t, tree("hub 0 a,b;device 1 a;device 0 b"), 3)
	outside := []int{4, -1, 12, least, greatest}
	for kind := 1; kind <= 14; kind++ {
		if kind >= arbor.Deliver && kind <= arbor.Turn {
			continue
		}
		for _, n := range outside {
			does(t, a, arbor.Act{Kind: kind, A: n, Op: op("put a 1"), Key: "a"}, api.ErrRange)
		}
	}
	for _, kind := range []int{0, 16, 17, -1, 100, least, greatest, 1<<32 + 1} {
		does(t, a, arbor.Act{Kind: kind, A: 2, Op: op("put a 1"), Key: "a"}, api.ErrRange)
	}
	for _, i := range []int{0, 1, -1, least, greatest} { // of an air of none
		for kind := arbor.Deliver; kind <= arbor.Turn; kind++ {
			does(t, a, arbor.Act{Kind: kind, A: i, B: i}, api.ErrNone)
		}
	}
	for _, c := range []struct {
		x    arbor.Act
		want api.Errno
	}{
		{writes(1, "put a 1"), api.ErrTree}, {writes(0, "put a 1"), api.ErrTree}, {arbor.Act{Kind: arbor.Write, A: 2}, api.ErrForm}, {writes(2, "put b 1"), api.ErrReach}, {writes(2, "put a 1"), api.OK},
		{arbor.Act{Kind: arbor.Start, A: 2}, api.ErrTwice}, {arbor.Act{Kind: arbor.Move, A: 2, B: 4}, api.ErrRange}, {arbor.Act{Kind: arbor.Move, A: 1}, api.ErrTree}, {arbor.Act{Kind: arbor.Move, A: 2, B: 3}, api.ErrTree}, {arbor.Act{Kind: arbor.Move, A: 3, B: 1}, api.OK}, {arbor.Act{Kind: arbor.Cut, A: 1}, api.OK},
		{arbor.Act{Kind: arbor.Arm, A: 1, B: -1}, api.ErrRange}, {arbor.Act{Kind: arbor.Arm, A: 1, B: 1<<40 + 1}, api.ErrRange}, {arbor.Act{Kind: arbor.Arm, A: 1, B: 1 << 40}, api.OK},
		{arbor.Act{Kind: arbor.Fail}, api.ErrTree}, {arbor.Act{Kind: arbor.Fail, A: 2}, api.ErrTree}, {arbor.Act{Kind: arbor.Fail, A: 1}, api.OK},
		{arbor.Act{Kind: arbor.Spoil, A: 1, B: -1}, api.ErrRange}, {arbor.Act{Kind: arbor.Spoil, A: 1, B: least}, api.ErrRange}, {arbor.Act{Kind: arbor.Spoil, A: 1, C: -1}, api.ErrRange}, {arbor.Act{Kind: arbor.Spoil, A: 1, C: 4096}, api.ErrRange}, {arbor.Act{Kind: arbor.Spoil, A: 1, B: 1024 * 512, C: 9}, api.ErrRange}, {arbor.Act{Kind: arbor.Spoil, A: 1, B: 1024*512 - 1, C: 4095}, api.OK},
		{arbor.Act{Kind: arbor.Watch, A: 2, Key: "b"}, api.ErrReach}, {arbor.Act{Kind: arbor.Watch, A: 2, Key: "a1"}, api.OK}, {arbor.Act{Kind: arbor.Watch, A: 2, Key: "a1"}, api.ErrTwice}, {arbor.Act{Kind: arbor.Calm, A: least}, api.OK},
	} {
		does(t, a, c.x, c.want)
	}
	does(t, a, arbor.Act{Kind: arbor.Crash, A: 2}, api.OK)
	for _, c := range []struct {
		kind int
		want api.Errno
	}{{arbor.Write, api.ErrDown}, {arbor.Tick, api.ErrDown}, {arbor.Move, api.ErrDown}, {arbor.Cut, api.ErrDown}, {arbor.Watch, api.ErrDown}, {arbor.Arm, api.OK}, {arbor.Spoil, api.OK}, {arbor.Crash, api.OK}} {
		does(t, a, arbor.Act{Kind: c.kind, A: 2, C: 77}, c.want)
	}
	n := 0
	for _, r := range a.History() { // of each Write there is a record, of what was refused, too
		n++
		if r.Err != api.OK && r.Id != (api.Id{}) || r.Step < 1 || r.Step > a.Steps() {
			t.Errorf("a record: %v", r)
		}
	}
	if h := a.History(); n != 5+5+1 || h[0].Err != api.ErrRange || h[0].Node != 4 || h[0].Step != 1 || h[n-1].Err != api.ErrDown || h[n-2].Err != api.OK {
		t.Errorf("History: %v", h)
	}
}

// What is told of nodes that there aren't, or that are down.
func TestP24_1_OfNodesThatAreNot(t *testing.T) {
	a := made(t, tree("hub 0 *;device 1 *"), 3)
	does(t, a, writes(2, "put a 1"), api.OK)
	does(t, a, arbor.Act{Kind: arbor.Watch, A: 2, Key: "a"}, api.OK)
	does(t, a, writes(2, "put a 2"), api.OK)
	does(t, a, arbor.Act{Kind: arbor.Crash, A: 2}, api.OK)
	for _, n := range []int{3, -1, 12, least, greatest} {
		v, e := a.Read(n, "a")
		s, f := a.Sure(n)
		if a.Up(n) || e != api.ErrRange || v != (api.Value{}) || f != api.ErrRange || s.Room != 0 || len(a.Events(n)) != 0 || !equal(a.Report(n), bough.Report{Node: n}) {
			t.Errorf("node %d: %d, %d, %v", n, e, f, a.Report(n))
		}
	}
	v, e := a.Read(2, "a")
	s, f := a.Sure(2)
	if a.Up(2) || e != api.ErrDown || v != (api.Value{}) || f != api.OK || len(s.Queue) != 2 || len(a.Events(2)) != 0 || !equal(a.Report(2), bough.Report{Node: 2}) {
		t.Errorf("a node that is down: %d, %d, %v", e, f, a.Report(2))
	}
	if v, e := a.Read(1, "A"); e != api.OK || v != (api.Value{}) {
		t.Errorf("Read of no key: %v, %d", v, e)
	}
	does(t, a, arbor.Act{Kind: arbor.Spoil, A: 2, B: 9, C: 0}, api.OK)
	if s, e := a.Sure(2); e != api.ErrRot || s.Room != 0 {
		t.Errorf("Sure of what is spoilt: %d", e)
	}
	does(t, a, arbor.Act{Kind: arbor.Start, A: 2}, api.ErrRot)
	if a.Up(2) {
		t.Error("it is up")
	}
}

// What nodes tell is on its way, in order; parcels are delivered, lost, doubled, in any order.
func TestP24_1_Parcels(t *testing.T) {
	a := made(t, tree("hub 0 *;device 1 *;device 1 *"), 3)
	tick := func(n int) { does(t, a, arbor.Act{Kind: arbor.Tick, A: n}, api.OK) }
	parcel := func(kind, i int) { does(t, a, arbor.Act{Kind: kind, A: i}, api.OK) }
	is := func(want string) {
		t.Helper()
		if got := kinds(t, a); got != want {
			t.Fatalf("on their way: %s, want %s", got, want)
		}
	}
	is("")
	tick(0)
	is("")
	tick(2)
	tick(3)
	tick(1)
	is("H21 H31 H10 ")
	parcel(arbor.Double, 4) // the second
	is("H21 H31 H10 H31 ")
	parcel(arbor.Deliver, 1)
	is("H21 H10 H31 U13 ")
	parcel(arbor.Lose, -1) // 2^64 - 1 modulo 4
	is("H21 H10 H31 ")
	parcel(arbor.Deliver, 2)
	is("H21 H10 U13 ")
	parcel(arbor.Deliver, 2)
	is("H21 H10 ")
	tick(3)
	is("H21 H10 O31 ")
	does(t, a, arbor.Act{Kind: arbor.Turn, A: 2, B: 77}, api.OK)
	does(t, a, arbor.Act{Kind: arbor.Turn, A: 2, B: 78}, api.ErrTwice)
	is("H21 H10 ? ")
	parcel(arbor.Deliver, 2) // spoilt: nothing is heard
	is("H21 H10 ")
	does(t, a, arbor.Act{Kind: arbor.Crash, A: 1}, api.OK)
	parcel(arbor.Deliver, 0) // to one that is down
	is("H10 ")
	does(t, a, arbor.Act{Kind: arbor.Start, A: 1}, api.OK)
	parcel(arbor.Deliver, 0)
	is("U01 ")
	parcel(arbor.Deliver, 0) // of an elder life
	tick(1)
	is("H10 ")
}

// An air of 400: what is told then is lost.
func TestP24_1_AFullAir(t *testing.T) {
	a := made(t, tree("device 0 *"), 3)
	for range 450 {
		does(t, a, arbor.Act{Kind: arbor.Tick, A: 1}, api.OK)
	}
	if n := len(a.Air()); n != 400 {
		t.Errorf("%d parcels", n)
	}
	does(t, a, arbor.Act{Kind: arbor.Double}, api.ErrFull)
	does(t, a, arbor.Act{Kind: arbor.Calm, A: 1}, api.OK)
	if n := len(a.Air()); n != 1 { // the tick of node 1
		t.Errorf("%d parcels", n)
	}
}

// A Calm is so many rounds of what it is told to be.
func TestP24_1_Calm(t *testing.T) {
	for _, x := range forest() {
		for _, rounds := range []int{0, 1, 2, 5, 63, 64, 65, 128, -1, -64, -63, least, greatest} {
			r := rand.New(rand.NewSource(24))
			a, w := made(t, x, 3), watch(t, x, 3)
			for range 60 {
				y := some(r, x, broken)
				a.Do(y)
				w.a.Do(y)
			}
			does(t, a, arbor.Act{Kind: arbor.Calm, A: rounds, B: 5, C: 5}, api.OK)
			for range uint(rounds) % 64 {
				for range 3000 {
					if w.a.Do(arbor.Act{Kind: arbor.Deliver}) != api.OK {
						break
					}
				}
				for n := range x {
					if w.a.Up(n) {
						w.a.Do(arbor.Act{Kind: arbor.Tick, A: n})
					} else {
						w.a.Do(arbor.Act{Kind: arbor.Start, A: n})
					}
				}
			}
			p, q := tell(a), tell(w.a)
			p.steps, q.steps = 0, 0
			if !same(p, q) {
				t.Fatalf("a Calm of %d of %q", rounds, trellis.Text(x))
			}
		}
	}
}

// Letters that make letters without end: 3000 parcels a round at most. (Here none do: a round ends with an empty air.)
func TestP24_1_CalmEmptiesTheAir(t *testing.T) {
	a := made(t, forest()[4], 3)
	for range 10 {
		does(t, a, arbor.Act{Kind: arbor.Calm, A: 1}, api.OK)
		if n := len(a.Air()); n == 0 || n > 12 {
			t.Errorf("%d parcels behind a round", n)
		}
	}
}

// dies has a device's Write end with its budget, so that so many of its writes of blocks are pending.
func dies(t *testing.T, budget int) *arbor.Arbor {
	t.Helper()
	a := made(t, tree("device 0 *"), 3)
	does(t, a, writes(1, "put a 1"), api.OK)
	does(t, a, arbor.Act{Kind: arbor.Arm, A: 1, B: budget}, api.OK)
	does(t, a, writes(1, "put b \"0123456789012345678901234567890123456789\""), api.ErrDead)
	if a.Up(1) {
		t.Fatal("it is up")
	}
	if h := a.History(); h[1].Err != api.ErrDead || h[1].Id != (api.Id{}) {
		t.Fatalf("History: %v", h)
	}
	return a
}

// A Crash keeps of what is pending what its bits tell; of a node that isn't up, too.
func TestP24_1_Crash(t *testing.T) {
	kept := map[int]int{}
	for budget := range 5 { // two or three blocks, a flush, the peg's block, a flush
		for _, bits := range []int{0, 1, 2, 3, 4, 5, 6, 7, 8, 15, -1, 1 << 30, 1<<30 | 1, least, greatest} {
			a := dies(t, budget)
			does(t, a, arbor.Act{Kind: arbor.Crash, A: 1, B: bits}, api.OK)
			s, e := a.Sure(1)
			if e != api.OK {
				t.Fatalf("a budget of %d, bits %d: %d", budget, bits, e)
			}
			does(t, a, arbor.Act{Kind: arbor.Start, A: 1}, api.OK)
			r := a.Report(1)
			if r.Life != 2 || len(r.Queue) != len(s.Queue) || len(s.Queue) < 1 {
				t.Fatalf("a budget of %d, bits %d: %v", budget, bits, r)
			}
			if len(s.Queue) == 2 {
				kept[bits]++
			}
		}
	}
	// With the peg's block alone kept, which is the first that is pending then, the write is there.
	if kept[1] == 0 || kept[-1] != kept[1] || kept[0] != 0 || kept[2] != 0 || kept[1<<30] != 0 || kept[1<<30|1] != kept[1] || kept[greatest] != kept[1] || kept[least] != 0 {
		t.Errorf("kept: %v", kept)
	}
}

// A Start that fails leaves the node down; its slate has no budget then, and what is pending on it is lost.
func TestP24_1_StartThatFails(t *testing.T) {
	for budget := range 12 {
		a := made(t, tree("device 0 *"), 3)
		does(t, a, arbor.Act{Kind: arbor.Crash, A: 1}, api.OK)
		does(t, a, arbor.Act{Kind: arbor.Arm, A: 1, B: budget}, api.OK)
		was, _ := a.Sure(1)
		e := a.Do(arbor.Act{Kind: arbor.Start, A: 1})
		if e == api.OK {
			if budget < 3 {
				t.Errorf("a budget of %d is enough", budget)
			}
			return
		}
		if e != api.ErrDead || a.Up(1) {
			t.Fatalf("a budget of %d: %d", budget, e)
		}
		if s, e := a.Sure(1); e != api.OK || s.Life != was.Life {
			t.Fatalf("a budget of %d: %v, %d", budget, s, e)
		}
		does(t, a, arbor.Act{Kind: arbor.Crash, A: 1, B: -1}, api.OK) // there is nothing to be kept
		if s, _ := a.Sure(1); s.Life != was.Life {
			t.Fatalf("a budget of %d: it was kept", budget)
		}
		does(t, a, arbor.Act{Kind: arbor.Start, A: 1}, api.OK)
		if r := a.Report(1); r.Life != was.Life+1 {
			t.Errorf("a budget of %d: %v", budget, r)
		}
	}
	t.Error("no budget is enough")
}

// A node that goes down within an act: it tells nothing, and is down behind it, till it is started again.
func TestP24_1_GoesDownWithinAnAct(t *testing.T) {
	a := made(t, tree("hub 0 *;device 1 *"), 5)
	does(t, a, arbor.Act{Kind: arbor.Calm, A: 5}, api.OK)
	does(t, a, writes(2, "put a 1"), api.OK)
	does(t, a, arbor.Act{Kind: arbor.Calm, A: 1}, api.OK)
	for len(a.Air()) > 1 {
		does(t, a, arbor.Act{Kind: arbor.Lose}, api.OK)
	}
	if got := kinds(t, a); got != "O21 " {
		t.Fatalf("on their way: %s", got)
	}
	does(t, a, arbor.Act{Kind: arbor.Arm, A: 1}, api.OK)
	does(t, a, arbor.Act{Kind: arbor.Deliver}, api.OK)
	if a.Up(1) || kinds(t, a) != "" {
		t.Errorf("it is up, or tells %s", kinds(t, a))
	}
	does(t, a, arbor.Act{Kind: arbor.Tick, A: 1}, api.ErrDown)
	does(t, a, arbor.Act{Kind: arbor.Start, A: 1}, api.ErrDead) // its budget is still 0
	does(t, a, arbor.Act{Kind: arbor.Start, A: 1}, api.OK)
	for _, x := range []arbor.Act{{Kind: arbor.Move, A: 2, B: 0}, {Kind: arbor.Cut, A: 1}, {Kind: arbor.Cut, A: 0}} {
		does(t, a, arbor.Act{Kind: arbor.Arm, A: x.A}, api.OK)
		does(t, a, x, api.ErrDead)
		if a.Up(x.A) {
			t.Errorf("%+v: it is up", x)
		}
	}
	does(t, a, arbor.Act{Kind: arbor.Calm, A: 12}, api.OK) // errors mean nothing there
	for n := range 3 {
		if r := a.Report(n); !a.Up(n) || len(r.Queue) > 0 || r.End != 1 {
			t.Errorf("node %d: %v", n, r)
		}
	}
}

func TestP24_1_Fail(t *testing.T) {
	a := made(t, tree("hub 0 *;hub 1 *;device 2 *;device 1 *;device 2 a;device 0 *"), 3)
	parents := func() (l []int) {
		for n := range 7 {
			l = append(l, a.Report(n).Parent)
		}
		return l
	}
	does(t, a, arbor.Act{Kind: arbor.Move, A: 6, B: 2}, api.OK)
	does(t, a, arbor.Act{Kind: arbor.Crash, A: 5}, api.OK)
	does(t, a, arbor.Act{Kind: arbor.Crash, A: 2}, api.OK) // the hub itself need not be up
	does(t, a, arbor.Act{Kind: arbor.Fail, A: 2}, api.OK)
	if got := parents(); !slices.Equal(got, []int{-1, 0, 0, 1, 1, 0, 1}) {
		t.Errorf("parents: %v", got)
	}
	does(t, a, arbor.Act{Kind: arbor.Start, A: 5}, api.OK) // one that was down stays where it was
	does(t, a, arbor.Act{Kind: arbor.Start, A: 2}, api.OK)
	if got := parents(); !slices.Equal(got, []int{-1, 0, 1, 1, 1, 2, 1}) {
		t.Errorf("parents: %v", got)
	}
	does(t, a, arbor.Act{Kind: arbor.Arm, A: 3}, api.OK) // one whose power goes by it
	does(t, a, arbor.Act{Kind: arbor.Fail, A: 1}, api.OK)
	if got := parents(); !slices.Equal(got, []int{-1, 0, 1, 0, 0, 2, 0}) || a.Up(3) || !a.Up(4) {
		t.Errorf("parents: %v", got)
	}
	was := tell(a)
	does(t, a, arbor.Act{Kind: arbor.Fail, A: 1}, api.OK) // none
	was.steps++
	if !same(tell(a), was) {
		t.Error("a Fail of none has changed something")
	}
}

func TestP24_1_Events(t *testing.T) {
	a := made(t, tree("hub 0 *;device 1 *"), 3)
	for _, key := range []string{"b", "a"} {
		does(t, a, arbor.Act{Kind: arbor.Watch, A: 2, Key: key}, api.OK)
		does(t, a, arbor.Act{Kind: arbor.Watch, A: 0, Key: key}, api.OK)
	}
	does(t, a, writes(2, "put a 1"), api.OK)
	does(t, a, writes(2, "put b 2"), api.OK)
	does(t, a, writes(2, "put c 2"), api.OK)
	want := []api.Cell{{Key: "a", Value: num(1)}, {Key: "b", Value: num(2)}}
	if got := a.Events(2); !slices.Equal(got, want) {
		t.Errorf("events: %v", got)
	}
	if len(a.Events(2))+len(a.Events(0))+len(a.Events(1)) != 0 {
		t.Error("events of nothing")
	}
	does(t, a, arbor.Act{Kind: arbor.Calm, A: 8}, api.OK)
	slices.Reverse(want)
	if got := a.Events(0); !slices.Equal(got, want) {
		t.Errorf("events: %v", got)
	}
}

// Sure of a node that is up, with what is pending; of one that is down.
func TestP24_1_Sure(t *testing.T) {
	a := dies(t, 1)
	s, e := a.Sure(1)
	if e != api.OK || len(s.Queue) != 1 || s.Life != 1 {
		t.Errorf("Sure: %v, %d", s, e)
	}
	x, _ := pith.New(0, -1, 40, api.Reach{""})
	if s, e := a.Sure(0); e != api.OK || s.Life != 1 || len(s.Stem.Lines) != 0 || s.Room != x.Room {
		t.Errorf("Sure: %v, %d", s, e)
	}
}

// P24.2: two arbors that do the same acts are the same, step by step: over scripts of every kind of act.
func TestP24_2_TheSameStepByStep(t *testing.T) {
	all := broken
	all[arbor.Spoil], all[arbor.Calm] = 1, 1
	for i, x := range forest() {
		r := rand.New(rand.NewSource(int64(240 + i)))
		a, b := made(t, x, 4), made(t, x, 4)
		for range 250 {
			y := some(r, x, all)
			switch y.Kind {
			case arbor.Spoil:
				y.B, y.C = r.Intn(64*512), r.Intn(5)
			case arbor.Calm:
				y.A = r.Intn(4)
			}
			if e, f := a.Do(y), b.Do(y); e != f {
				t.Fatalf("%+v: %d, %d", y, e, f)
			}
			for n := range x {
				if !slices.Equal(a.Events(n), b.Events(n)) {
					t.Fatalf("%+v: other events", y)
				}
			}
			if r.Intn(5) == 0 && !same(tell(a), tell(b)) {
				t.Fatalf("%+v: another arbor", y)
			}
		}
		if !same(tell(a), tell(b)) {
			t.Fatal("another arbor")
		}
	}
}
