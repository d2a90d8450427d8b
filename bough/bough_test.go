package bough_test

import (
	"slices"
	"strconv"
	"testing"

	"spinney/api"
	"spinney/bough"
	"spinney/fork"
	"spinney/letter"
	"spinney/pith"
	"spinney/roll"
	"spinney/slate"
	"spinney/trellis"
	"spinney/vault"
)

func TestP23_1_Example(t *testing.T) {
	x := tree("hub 0 *;device 1 *")
	n, e := bough.Open(x, 2, 3, slate.New())
	if e != api.OK {
		t.Fatalf("Open: %d", e)
	}
	does(t, n, "put a 1", "2/1")
	reads(t, n, "a", num(1))
	ticks(t, n, hello(2, 1, 1, 0, ""))
}

func TestP23_1_OpenAgainAndAgain(t *testing.T) {
	s := slate.New()
	for life := 1; life < 6; life++ {
		n := opened(t, 2, s)
		if r := n.Report(); !alike(r, bough.Report{Node: 2, Life: life, Parent: 1, Turn: 1, Queue: r.Queue, Cells: r.Cells}) || len(r.Queue) != life-1 {
			t.Fatalf("in the life %d it is %s", life, tell(r))
		}
		if n.Down() {
			t.Error("down")
		}
		does(t, n, "put b "+strconv.Itoa(life), "2/"+strconv.Itoa(life))
		s = s.Crash(nil)
	}
	root, _ := fresh(t, 0)
	if r := root.Report(); !alike(r, bough.Report{Life: 1, Parent: -1, Joined: true}) {
		t.Errorf("the root is %s", tell(r))
	}
}

func TestP23_1_OpenWhatCanNotBe(t *testing.T) {
	bad := ours()
	bad[1].Parent = 1
	spoilt := slate.New()
	spoilt.Spoil(0, 0, 3)
	for _, c := range []struct {
		name        string
		x           trellis.Tree
		n, patience int
		s           *slate.Slate
		want        api.Errno
	}{
		{"a tree that isn't good", bad, 0, 5, slate.New(), api.ErrForm}, {"no tree", nil, 9, 0, spoilt, api.ErrForm}, {"no such node", ours(), 6, 5, slate.New(), api.ErrRange}, {"below 0", ours(), -1, 5, slate.New(), api.ErrRange}, {"the least", ours(), least, 5, slate.New(), api.ErrRange}, {"the greatest", ours(), greatest, 5, slate.New(), api.ErrRange},
		{"no patience", ours(), 1, 0, slate.New(), api.ErrRange}, {"less", ours(), 1, -1, slate.New(), api.ErrRange}, {"too much", ours(), 1, 1001, slate.New(), api.ErrRange}, {"no patience, and spoilt", ours(), 1, 0, spoilt, api.ErrRange}, {"spoilt", ours(), 1, 5, spoilt, api.ErrRot},
		{"patience 1", ours(), 1, 1, slate.New(), api.OK}, {"patience 1000", ours(), 5, 1000, slate.New(), api.OK},
	} {
		n, e := bough.Open(c.x, c.n, c.patience, c.s)
		if e != c.want || (n == nil) != (e != api.OK) {
			t.Errorf("%s: %d, want %d", c.name, e, c.want)
		}
	}
}

// A slate of another node's state, of another reach or room, in the last life; a bit that is spoilt.
func TestP23_1_OpenOfAnotherState(t *testing.T) {
	for _, c := range []struct {
		name   string
		change func(x *pith.State)
		want   api.Errno
	}{
		{"its own", func(x *pith.State) {}, api.OK}, {"with another parent", func(x *pith.State) { x.Parent = 3 }, api.OK}, {"another node's", func(x *pith.State) { x.Node = 4 }, api.ErrRot}, {"another reach", func(x *pith.State) { x.Reach = api.Reach{"a.x"} }, api.ErrRot}, {"no reach", func(x *pith.State) { x.Reach = nil }, api.ErrRot}, {"another room", func(x *pith.State) { x.Room = 40 }, api.ErrRot},
		{"the last life", func(x *pith.State) { x.Life = 1 << 30 }, api.ErrRange}, {"the last life of another node", func(x *pith.State) { x.Life, x.Node = 1<<30, 4 }, api.ErrRot}, {"the life ahead of it", func(x *pith.State) { x.Life = 1<<30 - 1 }, api.OK},
	} {
		x, _ := pith.New(2, 1, 8, api.Reach{"a.x", "b"})
		c.change(&x)
		s := slate.New()
		if _, e := vault.Make(s, x); e != api.OK {
			t.Fatalf("%s: Make: %d", c.name, e)
		}
		n, e := bough.Open(ours(), 2, 5, s)
		if e != c.want || (n == nil) != (e != api.OK) {
			t.Errorf("%s: %d, want %d", c.name, e, c.want)
		}
		if e == api.OK && (n.Report().Life != x.Life+1 || n.Report().Parent != x.Parent) {
			t.Errorf("%s: it is %s", c.name, tell(n.Report()))
		}
		if e != api.OK && (s.Pending() != 0 || s.Dead()) {
			t.Errorf("%s: a step", c.name)
		}
		s = s.Crash(nil)
		s.Spoil(0, 1, 100)
		if n, e := bough.Open(ours(), 2, 5, s); e != api.ErrRot || n != nil {
			t.Errorf("%s, spoilt: %d", c.name, e)
		}
	}
}

func TestP23_1_OpenWithoutSteps(t *testing.T) {
	for budget := range 100 {
		s := slate.New()
		s.Arm(budget)
		n, e := bough.Open(ours(), 2, 5, s)
		if e == api.OK {
			if x, e := vault.Open(s.Crash(nil)); budget < 5 || e != api.OK || x.State().Life != 1 {
				t.Errorf("a budget of %d is enough", budget)
			}
			if m, e := bough.Open(ours(), 2, 1001, s); e != api.ErrRange || m != nil || s.Dead() {
				t.Errorf("a patience of 1001: %d", e)
			}
			return
		}
		if e != api.ErrDead || n != nil {
			t.Fatalf("a budget of %d: %d", budget, e)
		}
	}
}

func TestP23_1_Write(t *testing.T) {
	bad := op("put b 1")
	bad.B = num(1)
	n, _ := fresh(t, 2)
	for name, c := range map[string]struct {
		o    api.Op
		want api.Errno
	}{"no operation": {api.Op{}, api.ErrForm}, "one that isn't good": {bad, api.ErrForm}, "of a key that isn't one": {api.Op{Kind: api.Del, Key: "A"}, api.ErrForm}, "outside": {op("put a 1"), api.ErrReach}, "outside, too": {op("del c"), api.ErrReach}} {
		if id, e := n.Write(c.o); e != c.want || id != (api.Id{}) {
			t.Errorf("%s: %v, %d", name, id, e)
		}
	}
	for i := range 8 {
		does(t, n, "put b "+strconv.Itoa(i), "2/"+strconv.Itoa(i+1))
	}
	if id, e := n.Write(op("put b 9")); e != api.ErrFull || id != (api.Id{}) {
		t.Errorf("a full queue: %d", e)
	}
	if _, e := n.Write(op("put c 9")); e != api.ErrReach {
		t.Errorf("a full queue, and outside: %d", e)
	}
	is(t, n, 0, 0, 0, "2/1 2/2 2/3 2/4 2/5 2/6 2/7 2/8", "", "", cells("b", 7))
	for _, who := range []int{0, 1, 3, 5} {
		n, s := fresh(t, who)
		s.Arm(0)
		for _, o := range []api.Op{op("put a 1"), {}} {
			if id, e := n.Write(o); e != api.ErrTree || id != (api.Id{}) || n.Down() {
				t.Errorf("node %d's client: %d", who, e)
			}
		}
	}
}

// As many as a device may write, and one more.
func TestP23_1_MaxSeq(t *testing.T) {
	n, _ := fresh(t, 2)
	for i := 1; i <= 40; i++ {
		w := "2/" + strconv.Itoa(i) + " put b " + strconv.Itoa(i)
		does(t, n, w[len("2/")+len(strconv.Itoa(i))+1:], "2/"+strconv.Itoa(i))
		if i > 33 {
			continue // the queue is full at last
		}
		hears(t, n, update(1, 2, 1, i, 0, i-1, i, lines(i-1, w)))
	}
	is(t, n, 0, 33, 33, "2/34 2/35 2/36 2/37 2/38 2/39 2/40", "", "2/1 2/2 2/3 2/4 2/5 2/6 2/7 2/8 2/9 2/10 2/11 2/12 2/13 2/14 2/15 2/16 2/17 2/18 2/19 2/20 2/21 2/22 2/23 2/24 2/25 2/26 2/27 2/28 2/29 2/30 2/31 2/32 2/33", cells("b", 40))
	for range 2 {
		if id, e := n.Write(op("put b 9")); e != api.ErrSeq || id != (api.Id{}) {
			t.Errorf("one more: %d", e)
		}
	}
	if _, e := n.Write(op("put c 9")); e != api.ErrReach {
		t.Errorf("one more, outside: %d", e)
	}
}

func TestP23_1_Read(t *testing.T) {
	n, _ := fresh(t, 2)
	does(t, n, "put a.x.1 1", "2/1")
	does(t, n, "put b \"t\"", "2/2")
	reads(t, n, "a.x.1", num(1))
	reads(t, n, "b", api.Value{Kind: api.Text, Text: "t"})
	for _, key := range []string{"a.x", "b1", "bA\xff", "a.x "} { // any text that begins so
		reads(t, n, key, api.Value{})
	}
	for _, key := range []string{"", "a", "a.", "c", "A", "\xff"} {
		if v, e := n.Read(key); e != api.ErrReach || v != (api.Value{}) {
			t.Errorf("Read(%q): %v, %d", key, v, e)
		}
	}
}

func TestP23_1_Hello(t *testing.T) {
	n, _ := fresh(t, 1)
	hears(t, n, hello(2, 1, 1, 0, "a.x", "b"), update(1, 2, 1, 1025, 0, 0, 0, nil))
	hears(t, n, hello(2, 1, 1, 0, "a.x", "b"), update(1, 2, 1, 1026, 0, 0, 0, nil))
	hears(t, n, hello(5, 1, 1, 0), update(1, 5, 1, 1025, 0, 0, 0, nil)) // of no key
	before := n.Report()
	for _, r := range []api.Reach{{""}, {"c"}, {"a", "c"}, {"a", "b", "c"}} { // not covered: the fork doesn't hear it
		hears(t, n, hello(4, 1, 9, 0, r...))
		hears(t, n, hello(2, 1, 9, 0, r...))
		if !alike(n.Report(), before) {
			t.Fatalf("it has heard a Hello of %q", r)
		}
	}
	d, _ := fresh(t, 2)
	hears(t, d, hello(4, 2, 1, 0, "b"))
	hears(t, d, hello(4, 2, 1, 0))
	if len(d.Report().Sessions) != 0 {
		t.Error("a device has a session")
	}
	for _, l := range []letter.Letter{hello(2, 3, 1, 0, "b"), hello(2, 0, 1, 0, "b")} { // to another one
		hears(t, n, l)
	}
	if !alike(before.Sessions, []fork.Session{{Child: 2, Life: 1, Turn: 1, Stamp: 1026, Reach: api.Reach{"a.x", "b"}}, {Child: 5, Life: 1, Turn: 1, Stamp: 1025}}) {
		t.Errorf("sessions: %s", tell(before.Sessions))
	}
}

// grown is the hub 1, whose end is 5, with a tail, a queue, and a child that is joined.
func grown(t *testing.T) *bough.Node {
	n, _ := fresh(t, 1)
	hears(t, n, update(0, 1, 1, 7, 0, 0, 5, lines(0, "4/1 put b 1", "4/2 put a 2", "2/1 put a.x 3", "", "5/1 put b 4"), "4/3 put a 5", "4/4 put b 6"))
	hears(t, n, hello(2, 1, 1, 2, "a.x", "b"), update(1, 2, 1, 1025, 0, 2, 5, lines(2, "2/1 put a.x 3", "", "5/1 put b 4"), "4/4 put b 6"))
	hears(t, n, offer(2, 1, 1, 2, 2, 1, 1025, "2/2 put a.x 7"), update(1, 2, 1, 1026, 1, 2, 5, lines(2, "2/1 put a.x 3", "", "5/1 put b 4"), "4/4 put b 6", "2/2 put a.x 7"))
	return n
}

// A child's prefix below the base, at it, between, at the end, above it.
func TestP23_1_Update(t *testing.T) {
	n, _ := fresh(t, 1)
	hears(t, n, update(0, 1, 1, 7, 0, 0, 5, lines(0, "4/1 put b 1", "4/2 put a 2", "2/1 put a.x 3", "", "4/3 put b 4"), "4/4 put a 5", "2/2 put b 6"))
	hears(t, n, hello(5, 1, 1, 2, "a"), update(1, 5, 1, 1025, 0, 2, 5, lines(2, "2/1 put a.x 3"), "4/4 put a 5"))
	hears(t, n, offer(5, 1, 1, 2, 2, 1, 1025), update(1, 5, 1, 1026, 0, 2, 5, lines(2, "2/1 put a.x 3"), "4/4 put a 5"))
	is(t, n, 0, 5, 2, "", "4/4 2/2", "4/1 4/2 2/1 4/3", cells("a", 5, "a.x", 3, "b", 6))
	if e := n.Cut(); e != api.OK {
		t.Fatalf("Cut: %d", e)
	}
	is(t, n, 2, 5, 2, "", "4/4 2/2", "2/1 4/3", cells("a", 5, "a.x", 3, "b", 6))
	turn := 1
	for _, c := range []struct {
		prefix int
		want   letter.Letter
	}{
		{0, snap(update(1, 2, 0, 1025, 0, 2, 5, lines(2, "2/1 put a.x 3", "", "4/3 put b 4"), "2/2 put b 6"), cells("b", 1), roll.Lasts{4: 2})},
		{1, snap(update(1, 2, 0, 1025, 0, 2, 5, lines(2, "2/1 put a.x 3", "", "4/3 put b 4"), "2/2 put b 6"), cells("b", 1), roll.Lasts{4: 2})},
		{2, update(1, 2, 0, 1025, 0, 2, 5, lines(2, "2/1 put a.x 3", "", "4/3 put b 4"), "2/2 put b 6")},
		{3, update(1, 2, 0, 1025, 0, 3, 5, lines(4, "4/3 put b 4"), "2/2 put b 6")},
		{5, update(1, 2, 0, 1025, 0, 5, 5, nil, "2/2 put b 6")},
		{6, update(1, 2, 0, 1025, 0, 5, 5, nil, "2/2 put b 6")},
		{4096, update(1, 2, 0, 1025, 0, 5, 5, nil, "2/2 put b 6")},
	} {
		c.want.Turn = turn
		hears(t, n, hello(2, 1, turn, c.prefix, "a.x", "b"), c.want)
		turn++
	}
	hears(t, n, hello(2, 1, turn, 0), snap(update(1, 2, turn, 1025, 0, 2, 5, nil), nil, roll.Lasts{4: 2}))
}

func TestP23_1_Offer(t *testing.T) {
	for _, c := range []struct {
		name   string
		offer  []string
		taken  int
		queue  string
		behind []string
	}{
		{"none", nil, 0, "", nil},
		{"all are taken", []string{"2/1 put b 1", "2/2 put b 2", "4/1 put b 3"}, 3, "2/1 2/2 4/1", []string{"2/1 put b 1", "2/2 put b 2", "4/1 put b 3"}},
		{"the first can't be: a gap", []string{"2/2 put b 2", "2/1 put b 1"}, 0, "", nil},
		{"the first can't be: outside", []string{"2/1 put c 2", "2/2 put b 1"}, 0, "", nil},
		{"the middle can't be", []string{"2/1 put b 1", "2/3 put b 3", "2/2 put b 2"}, 1, "2/1", []string{"2/1 put b 1"}},
		{"the last can't be", []string{"2/1 put b 1", "2/2 put b 2", "2/3 put c 3"}, 2, "2/1 2/2", []string{"2/1 put b 1", "2/2 put b 2"}},
		{"one is known", []string{"2/1 put b 1", "2/1 put b 1", "2/2 put b 2"}, 3, "2/1 2/2", []string{"2/1 put b 1", "2/2 put b 2"}},
		{"of a key that the child doesn't have", []string{"2/1 put a 1", "2/2 put b 2"}, 2, "2/1 2/2", []string{"2/2 put b 2"}},
	} {
		n, s := fresh(t, 1)
		hears(t, n, hello(2, 1, 1, 0, "a.x", "b"), update(1, 2, 1, 1025, 0, 0, 0, nil))
		l := offer(2, 1, 1, 0, 0, 1, 1025, c.offer...)
		hears(t, n, l, update(1, 2, 1, 1026, c.taken, 0, 0, nil, c.behind...))
		r := n.Report()
		is(t, n, 0, 0, 0, c.queue, "", "", r.Cells)
		if len(r.Sessions) != 1 || !r.Sessions[0].Joined || r.Sessions[0].Taken != c.taken {
			t.Errorf("%s: sessions %s", c.name, tell(r.Sessions))
		}
		// It is sure, ahead of being told.
		if x, e := vault.Open(s.Crash(nil)); e != api.OK || !alike(x.State().Queue, r.Queue) {
			t.Errorf("%s: it isn't sure", c.name)
		}
		if s.Pending() != 0 {
			t.Errorf("%s: %d are pending", c.name, s.Pending())
		}
		// Again, as a double: nothing is wanted any more of what was taken.
		hears(t, n, l, update(1, 2, 1, 1027, n.Report().Sessions[0].Taken, 0, 0, nil, c.behind...))
	}
}

// An Offer of a session that there isn't is answered by a Reset of that; at a device, too.
func TestP23_1_OfferUnknown(t *testing.T) {
	n, _ := fresh(t, 1)
	hears(t, n, offer(2, 1, 3, 0, 0, 1, 5, "2/1 put b 1"), reset(1, 2, 3))
	is(t, n, 0, 0, 0, "", "", "", nil)
	hears(t, n, hello(2, 1, 3, 0, "b"), update(1, 2, 3, 1025, 0, 0, 0, nil))
	hears(t, n, offer(2, 1, 4, 0, 0, 1, 5, "2/1 put b 1"), reset(1, 2, 4))
	hears(t, n, offer(2, 1, 2, 0, 0, 1, 5, "2/1 put b 1")) // an elder one
	hears(t, n, hello(2, 1, 2, 0, "b"))
	is(t, n, 0, 0, 0, "", "", "", nil)
	d, _ := fresh(t, 2)
	hears(t, d, offer(4, 2, 3, 0, 0, 1, 5, "4/1 put b 1"), reset(2, 4, 3))
	is(t, d, 0, 0, 0, "", "", "", nil)
}

// The root takes what it is offered as its order.
func TestP23_1_OfferToTheRoot(t *testing.T) {
	n, _ := fresh(t, 0)
	hears(t, n, hello(1, 0, 1, 0, "a", "b"), update(0, 1, 1, 1025, 0, 0, 0, nil))
	hears(t, n, offer(1, 0, 1, 0, 0, 1, 1025, "2/1 put b 1", "2/2 put a 2"), update(0, 1, 1, 1026, 2, 0, 2, lines(0, "2/1 put b 1", "2/2 put a 2")))
	is(t, n, 0, 2, 0, "", "", "2/1 2/2", cells("a", 2, "b", 1))
	hears(t, n, offer(1, 0, 1, 2, 2, 2, 1026, "2/2 put a 2", "2/3 del b"), update(0, 1, 1, 1027, 3, 2, 3, lines(2, "2/3 del b")))
	is(t, n, 0, 3, 2, "", "", "2/1 2/2 2/3", cells("a", 2))
	hears(t, n, update(1, 0, 1, 9, 0, 0, 9, nil)) // it has no parent
	hears(t, n, reset(1, 0, 1))
	is(t, n, 0, 3, 2, "", "", "2/1 2/2 2/3", cells("a", 2))
	ticks(t, n)
}

// A queue that is full: of a hub forty.
func TestP23_1_OfferToAFullHub(t *testing.T) {
	n, _ := fresh(t, 1)
	hears(t, n, hello(2, 1, 1, 0), update(1, 2, 1, 1025, 0, 0, 0, nil))
	var l []string
	for i := range 45 {
		l = append(l, strconv.Itoa(2+i/40)+"/"+strconv.Itoa(1+i%40)+" put b "+strconv.Itoa(i))
	}
	hears(t, n, offer(2, 1, 1, 0, 0, 1, 1025, l...), update(1, 2, 1, 1026, 40, 0, 0, nil))
	hears(t, n, offer(2, 1, 1, 0, 0, 1, 1025, l...), update(1, 2, 1, 1027, 40, 0, 0, nil))
	if len(n.Report().Queue) != 40 {
		t.Errorf("%d wait", len(n.Report().Queue))
	}
	// What settles makes room.
	hears(t, n, update(0, 1, 1, 9, 0, 0, 2, lines(0, l[0], l[1])))
	hears(t, n, offer(2, 1, 1, 0, 0, 41, 1025, l[40:]...), update(1, 2, 1, 1028, 42, 0, 2, nil))
}

func TestP23_1_HearUpdate(t *testing.T) {
	n, s := fresh(t, 2)
	does(t, n, "put b 1", "2/1")
	does(t, n, "put a.x 2", "2/2")
	ticks(t, n, hello(2, 1, 1, 0, "a.x", "b"))
	hears(t, n, update(1, 2, 1, 5, 9, 0, 0, nil))
	is(t, n, 0, 0, 0, "2/1 2/2", "", "", cells("a.x", 2, "b", 1))
	ticks(t, n, offer(2, 1, 1, 0, 0, 1, 5, "2/1 put b 1", "2/2 put a.x 2"))
	hears(t, n, update(1, 2, 1, 6, 2, 0, 3, lines(1, "2/1 put b 1"), "4/1 put b 9", "2/2 put a.x 2"))
	is(t, n, 0, 3, 3, "2/2", "4/1 2/2", "2/1", cells("a.x", 2, "b", 9))
	ticks(t, n, offer(2, 1, 1, 3, 3, 3, 6)) // both were taken
	// One that would change nothing is News all the same, and takes no step.
	s.Arm(0)
	hears(t, n, update(1, 2, 1, 7, 0, 3, 3, nil, "4/1 put b 9", "2/2 put a.x 2"))
	ticks(t, n, offer(2, 1, 1, 3, 3, 3, 7))
	hears(t, n, update(1, 2, 1, 8, 0, 1, 3, lines(1, "2/1 put b 1"), "4/1 put b 9", "2/2 put a.x 2"))
	ticks(t, n, offer(2, 1, 1, 3, 3, 3, 8))
	// Those that don't fit are no News: a gap, an end below, an elder stamp, another session, another parent.
	for _, l := range []letter.Letter{update(1, 2, 1, 50, 0, 4, 5, nil), update(1, 2, 1, 51, 0, 0, 2, nil), update(1, 2, 1, 8, 0, 3, 4, nil), update(1, 2, 1, 7, 0, 3, 4, nil), update(1, 2, 2, 52, 0, 3, 4, nil), update(0, 2, 1, 53, 0, 3, 4, nil), update(3, 2, 1, 54, 0, 3, 4, nil), update(1, 4, 1, 55, 0, 3, 4, nil), reset(0, 2, 1), reset(1, 2, 2)} {
		hears(t, n, l)
		ticks(t, n, offer(2, 1, 1, 3, 3, 3, 8))
		is(t, n, 0, 3, 3, "2/2", "4/1 2/2", "2/1", cells("a.x", 2, "b", 9))
	}
	// Nor those that can't be done: a key outside, a tail of one id twice.
	for _, l := range []letter.Letter{update(1, 2, 1, 60, 0, 3, 4, lines(3, "4/1 put c 1")), update(1, 2, 1, 61, 0, 3, 4, nil, "4/1 put c 1"), update(1, 2, 1, 62, 0, 3, 4, nil, "4/1 put b 1", "4/1 put b 1")} {
		hears(t, n, l)
		ticks(t, n, offer(2, 1, 1, 3, 3, 3, 8))
	}
	if n.Down() {
		t.Fatal("down")
	}
	s.Arm(1000)
	// Another tail alone; an end alone.
	hears(t, n, update(1, 2, 1, 63, 0, 3, 3, nil))
	is(t, n, 0, 3, 3, "2/2", "", "2/1", cells("a.x", 2, "b", 1))
	hears(t, n, update(1, 2, 1, 64, 0, 3, 4, nil))
	is(t, n, 0, 4, 4, "2/2", "", "2/1", cells("a.x", 2, "b", 1))
	hears(t, n, reset(1, 2, 1))
	ticks(t, n, hello(2, 1, 2, 4, "a.x", "b"))
	if x, e := vault.Open(s.Crash(nil)); e != api.OK || x.State().Stem.End != 4 {
		t.Error("it isn't sure")
	}
}

// With Snap above the end it leaps, and then grows; at it and below it is as any other one.
func TestP23_1_HearSnap(t *testing.T) {
	for _, c := range []struct {
		name  string
		l     letter.Letter
		base  int
		end   int
		queue string
		tail  string
		known string
		c     []api.Cell
	}{
		{"above", snap(update(1, 2, 1, 5, 0, 6, 8, lines(7, "2/2 put a.x 2"), "4/3 put b 4"), cells("b", 7), roll.Lasts{2: 1}), 6, 8, "", "4/3", "2/2", cells("a.x", 2, "b", 4)},
		{"above, without more", snap(update(1, 2, 1, 5, 0, 6, 6, nil, "4/3 put b 4"), cells("b", 7), roll.Lasts{2: 1}), 6, 6, "2/2", "4/3", "", cells("a.x", 2, "b", 4)},
		{"above, with an end alone", snap(update(1, 2, 1, 5, 0, 6, 9, nil), nil, roll.Lasts{2: 2}), 6, 9, "", "", "", nil},
		{"at the end", snap(update(1, 2, 1, 5, 0, 2, 3, lines(2, "2/1 put b 1")), cells("b", 7), roll.Lasts{2: 1}), 0, 3, "2/2", "", "2/1", cells("a.x", 2, "b", 1)},
		{"below it", snap(update(1, 2, 1, 5, 0, 1, 3, lines(2, "2/1 put b 1"), "4/9 put b 8"), cells("b", 7), roll.Lasts{2: 2}), 0, 3, "2/2", "4/9", "2/1", cells("a.x", 2, "b", 8)},
		{"below it, of no more", snap(update(1, 2, 1, 5, 0, 1, 1, nil), cells("b", 7), roll.Lasts{2: 2}), 0, 2, "2/1 2/2", "", "", cells("a.x", 2, "b", 1)},
		{"of a key outside", snap(update(1, 2, 1, 5, 0, 6, 8, nil), cells("c", 7), roll.Lasts{2: 2}), 0, 2, "2/1 2/2", "", "", cells("a.x", 2, "b", 1)},
		{"of a line outside", snap(update(1, 2, 1, 5, 0, 6, 8, lines(6, "4/1 put c 1")), cells("b", 7), roll.Lasts{2: 2}), 0, 2, "2/1 2/2", "", "", cells("a.x", 2, "b", 1)},
	} {
		n, s := fresh(t, 2)
		does(t, n, "put b 1", "2/1")
		does(t, n, "put a.x 2", "2/2")
		hears(t, n, update(1, 2, 1, 4, 0, 0, 2, nil))
		hears(t, n, c.l)
		is(t, n, c.base, c.end, c.end, c.queue, c.tail, c.known, c.c)
		x, e := vault.Open(s.Crash(nil))
		if y := x.State(); e != api.OK || y.Stem.End != c.end || y.Stem.Base != c.base {
			t.Errorf("%s: it isn't sure", c.name)
		}
		want := 5
		if c.end == 2 {
			want = 4
		}
		if l := n.Tick(); len(l) != 1 || l[0].Stamp != want {
			t.Errorf("%s: it tells %s", c.name, tell(l))
		}
	}
}

// A low that was told is the floor: who tells a lesser one isn't joined.
func TestP23_1_TickAndFloor(t *testing.T) {
	n, _ := fresh(t, 1)
	hears(t, n, update(0, 1, 1, 7, 0, 0, 5, nil))
	hears(t, n, hello(2, 1, 1, 3, "b"), update(1, 2, 1, 1025, 0, 3, 5, nil))
	hears(t, n, offer(2, 1, 1, 3, 3, 1, 1025), update(1, 2, 1, 1026, 0, 3, 5, nil))
	ticks(t, n, offer(1, 0, 1, 5, 3, 1, 7))
	for _, low := range []int{2, 3} {
		hears(t, n, hello(5, 1, low, 4, "a"), update(1, 5, low, 1025, 0, 4, 5, nil))
		hears(t, n, offer(5, 1, low, 4, low, 1, 1025), update(1, 5, low, 1026, 0, 4, 5, nil))
		if s := n.Report().Sessions; len(s) != 2 || s[1].Joined != (low == 3) {
			t.Errorf("of a low of %d: %s", low, tell(s))
		}
	}
	// A Hello tells no low, so there is no floor from it.
	m, _ := fresh(t, 1)
	hears(t, m, update(0, 1, 1, 7, 0, 0, 5, nil))
	hears(t, m, reset(0, 1, 1))
	ticks(t, m, hello(1, 0, 2, 5, "a", "b"))
	hears(t, m, hello(2, 1, 1, 3, "b"), update(1, 2, 1, 1025, 0, 3, 5, nil))
	hears(t, m, offer(2, 1, 1, 3, 1, 1, 1025), update(1, 2, 1, 1026, 0, 3, 5, nil))
	if s := m.Report().Sessions; !s[0].Joined {
		t.Errorf("it isn't joined: %s", tell(s))
	}
	// Sessions that aren't heard for five ticks are gone, at the root, too.
	hears(t, n, offer(2, 1, 1, 3, 3, 1, 1025), update(1, 2, 1, 1027, 0, 3, 5, nil))
	for i := range 5 {
		if len(n.Report().Sessions) != 2 {
			t.Errorf("at tick %d: %s", i, tell(n.Report().Sessions))
		}
		n.Tick()
	}
	is(t, n, 0, 5, 5, "", "", "", nil)
	if s := n.Report().Sessions; len(s) != 0 {
		t.Errorf("they aren't gone: %s", tell(s))
	}
	root, _ := fresh(t, 0)
	hears(t, root, hello(1, 0, 1, 0, "a", "b"), update(0, 1, 1, 1025, 0, 0, 0, nil))
	for range 5 {
		ticks(t, root)
	}
	if s := root.Report().Sessions; len(s) != 0 {
		t.Errorf("they aren't gone: %s", tell(s))
	}
}

func TestP23_1_Move(t *testing.T) {
	n, s := fresh(t, 2)
	hears(t, n, update(1, 2, 1, 5, 0, 0, 3, nil))
	for to, want := range map[int]api.Errno{6: api.ErrRange, -1: api.ErrRange, least: api.ErrRange, 2: api.ErrTree, 4: api.ErrTree, 5: api.ErrReach} {
		if e := n.Move(to); e != want {
			t.Errorf("Move(%d): %d, want %d", to, e, want)
		}
		ticks(t, n, offer(2, 1, 1, 3, 3, 1, 5))
	}
	if e := n.Move(1); e != api.OK { // to the parent that it has: the same session
		t.Errorf("Move(1): %d", e)
	}
	ticks(t, n, offer(2, 1, 1, 3, 3, 1, 5))
	for i, to := range []int{3, 0, 1} {
		if e := n.Move(to); e != api.OK {
			t.Errorf("Move(%d): %d", to, e)
		}
		if r := n.Report(); r.Parent != to || r.Turn != 2+i || r.Joined {
			t.Errorf("moved to %d: %s", to, tell(r))
		}
		ticks(t, n, hello(2, to, 2+i, 3, "a.x", "b"))
		if x, e := vault.Open(s.Crash(nil)); e != api.OK || x.State().Parent != to {
			t.Error("it isn't sure")
		}
		for _, other := range []int{0, 1, 3, 4} { // not the parent
			if other != to {
				hears(t, n, update(other, 2, 2+i, 90, 0, 3, 4, nil))
			}
		}
		is(t, n, 0, 3, 3, "", "", "", nil)
	}
	n.Move(3)
	x := opened(t, 2, s.Crash(nil))
	if l := x.Tick(); len(l) != 1 || l[0].To != 3 || l[0].Life != 2 || l[0].Turn != 1 {
		t.Errorf("opened again it tells %s", tell(l))
	}
	for _, who := range []int{0, 1, 3, 5} {
		n, _ := fresh(t, who)
		for to, want := range map[int]api.Errno{0: api.ErrTree, 3: api.ErrTree, 6: api.ErrRange} {
			if e := n.Move(to); e != want {
				t.Errorf("node %d to %d: %d, want %d", who, to, e, want)
			}
		}
	}
}

func TestP23_1_Cut(t *testing.T) {
	n, s := fresh(t, 1)
	files := func() []int { return s.Files() }
	was := files()
	if e := n.Cut(); e != api.OK || slices.Equal(files(), was) { // at the base: it is packed all the same
		t.Errorf("Cut: %d, files %v", e, files())
	}
	hears(t, n, update(0, 1, 1, 7, 0, 0, 4, lines(0, "4/1 put b 1", "4/2 put a 2", "2/1 add b 3", "4/3 del a"), "4/4 put a 5"))
	hears(t, n, hello(2, 1, 1, 1, "b"), update(1, 2, 1, 1025, 0, 1, 4, lines(2, "2/1 add b 3")))
	hears(t, n, offer(2, 1, 1, 1, 1, 1, 1025), update(1, 2, 1, 1026, 0, 1, 4, lines(2, "2/1 add b 3")))
	for _, c := range []struct {
		low   int
		known string
	}{{1, "4/2 2/1 4/3"}, {1, "4/2 2/1 4/3"}, {3, "4/3"}, {4, ""}} {
		hears(t, n, offer(2, 1, 1, c.low, c.low, 1, 1026), n2(n, c.low))
		was := files()
		if e := n.Cut(); e != api.OK || slices.Equal(files(), was) || s.Pending() != 0 {
			t.Errorf("Cut: %d", e)
		}
		is(t, n, c.low, 4, c.low, "", "4/4", c.known, cells("a", 5, "b", 4))
		if x, e := vault.Open(s.Crash(nil)); e != api.OK || x.State().Stem.Base != c.low {
			t.Error("it isn't sure")
		}
	}
	hears(t, n, update(0, 1, 1, 8, 0, 4, 5, lines(4, "4/4 put a 5"), "2/2 put b 9"))
	is(t, n, 4, 5, 4, "", "2/2", "4/4", cells("a", 5, "b", 9))
}

// n2 is the Update that the hub 1 of TestP23_1_Cut tells next, to a child that knows up to a place.
func n2(n *bough.Node, prefix int) letter.Letter {
	s := n.Report().Sessions[0]
	var l []roll.Line
	if prefix < 3 {
		l = lines(2, "2/1 add b 3")
	}
	return update(1, 2, 1, s.Stamp+1, 0, prefix, 4, l)
}

func TestP23_1_WatchAndEvents(t *testing.T) {
	n, _ := fresh(t, 2)
	for _, key := range []string{"", "a", "c", "b\xff", "bA", "a.x "} {
		if e := n.Watch(key); e != api.ErrReach {
			t.Errorf("Watch(%q): %d", key, e)
		}
	}
	does(t, n, "put b.0 1", "2/1")
	var keys []string
	for i := range 20 {
		key := "b." + strconv.Itoa(i)
		if e := n.Watch(key); e != api.OK {
			t.Errorf("Watch(%s): %d", key, e)
		}
		if e := n.Watch(key); e != api.ErrTwice {
			t.Errorf("Watch(%s) again: %d", key, e)
		}
		keys = append(keys, key)
	}
	for key, want := range map[string]api.Errno{"b": api.ErrFull, "b.3": api.ErrTwice, "c": api.ErrReach} {
		if e := n.Watch(key); e != want {
			t.Errorf("Watch(%s) beside twenty: %d", key, e)
		}
	}
	if l := n.Events(); len(l) != 0 {
		t.Errorf("events: %v", l)
	}
	does(t, n, "put b.5 1", "2/2")
	does(t, n, "put b.5 1", "2/3") // no change
	does(t, n, "put b 1", "2/4")   // not watched
	does(t, n, "del b.0", "2/5")
	does(t, n, "del b.0", "2/6") // it fails
	if l := n.Events(); !slices.Equal(l, []api.Cell{{Key: "b.5", Value: num(1)}, {Key: "b.0"}}) {
		t.Errorf("events: %v", l)
	}
	if l := n.Events(); len(l) != 0 {
		t.Errorf("events that are gone: %v", l)
	}
	// Several behind one call, in the order in which they were watched.
	hears(t, n, update(1, 2, 1, 5, 0, 0, 0, nil, "4/1 put b.19 9", "4/2 put b.3 8", "4/3 put b.0 7", "4/4 put a.x 1"))
	if l := n.Events(); !slices.Equal(l, cells("b.3", 8, "b.19", 9)) {
		t.Errorf("events: %v", l)
	}
	// Of more than 64 the last ones.
	stamp := 6
	var all []api.Cell
	for i := range 50 {
		hears(t, n, update(1, 2, 1, stamp, 0, 0, 0, nil, "4/1 put b.1 "+strconv.Itoa(i), "4/2 put b.2 "+strconv.Itoa(i)))
		stamp++
		if i == 0 {
			all = append(all, cells("b.1", 0, "b.2", 0)...)
			all = append(all, api.Cell{Key: "b.3"}, api.Cell{Key: "b.19"})
			continue
		}
		all = append(all, cells("b.1", i, "b.2", i)...)
	}
	if l := n.Events(); !slices.Equal(l, all[len(all)-64:]) || len(l) != 64 {
		t.Errorf("%d events: %v", len(l), l)
	}
	// Ticks, moves, cuts change nothing that is seen.
	n.Tick()
	n.Move(0)
	n.Cut()
	if l := n.Events(); len(l) != 0 {
		t.Errorf("events: %v", l)
	}
}

func TestP23_1_Report(t *testing.T) {
	n := grown(t)
	if r := n.Report(); !alike(r, bough.Report{Node: 1, Life: 1, Parent: 0, End: 5, Low: 2, Turn: 1, Joined: true,
		Queue: writes("2/2 put a.x 7"), Tail: writes("4/3 put a 5", "4/4 put b 6"), Known: writes("4/1 put b 1", "4/2 put a 2", "2/1 put a.x 3", "5/1 put b 4"), Cells: cells("a", 5, "a.x", 7, "b", 6),
		Sessions: []fork.Session{{Child: 2, Life: 1, Turn: 1, Prefix: 2, Low: 2, Stamp: 1026, Taken: 1, Joined: true, Reach: api.Reach{"a.x", "b"}}}}) {
		t.Errorf("it is %s", tell(r))
	}
}

// down is a node that went down with a write, or a tick ahead of which there is no step.
func down(t *testing.T, who int) *bough.Node {
	n, s := fresh(t, who)
	hears(t, n, hello(4, who, 1, 0), n4(who)...)
	if who == 2 { // an event that nobody has asked for yet
		n.Watch("b")
		does(t, n, "put b 9", "2/1")
	}
	s.Arm(0)
	if who == 2 {
		if id, e := n.Write(op("put b 1")); e != api.ErrDead || id != (api.Id{}) {
			t.Fatalf("Write: %d", e)
		}
	} else if e := n.Cut(); e != api.ErrDead {
		t.Fatalf("Cut: %d", e)
	}
	s.Arm(1000)
	return n
}

func n4(who int) []letter.Letter {
	if who == 2 {
		return nil
	}
	return []letter.Letter{update(who, 4, 1, 1025, 0, 0, 0, nil)}
}

func TestP23_1_Down(t *testing.T) {
	for _, who := range []int{0, 1, 2, 3} {
		n := down(t, who)
		if !n.Down() {
			t.Fatal("it isn't down")
		}
		for range 2 {
			if id, e := n.Write(op("put b 1")); e != api.ErrDown || id != (api.Id{}) {
				t.Errorf("Write: %d", e)
			}
			if v, e := n.Read("b"); e != api.ErrDown || v != (api.Value{}) {
				t.Errorf("Read: %d", e)
			}
			if e := n.Move(9); e != api.ErrDown {
				t.Errorf("Move: %d", e)
			}
			if e := n.Cut(); e != api.ErrDown {
				t.Errorf("Cut: %d", e)
			}
			if e := n.Watch(""); e != api.ErrDown {
				t.Errorf("Watch: %d", e)
			}
			hears(t, n, hello(4, who, 2, 0))
			hears(t, n, offer(4, who, 1, 0, 0, 1, 1, "4/1 put b 1"))
			hears(t, n, update(1, who%2*2, 1, 9, 0, 0, 1, nil))
			ticks(t, n)
			if len(n.Events()) != 0 || !alike(n.Report(), bough.Report{Node: who}) {
				t.Errorf("it is %s", tell(n.Report()))
			}
		}
	}
}

// The call within which it goes down answers ErrDead, and nothing is told: whatever step is the last.
func TestP23_1_GoesDown(t *testing.T) {
	calls := map[string]func(n *bough.Node) (api.Errno, []letter.Letter){
		"Write": func(n *bough.Node) (api.Errno, []letter.Letter) { _, e := n.Write(op("put b 1")); return e, nil },
		"Move":  func(n *bough.Node) (api.Errno, []letter.Letter) { return n.Move(3), nil },
		"Same":  func(n *bough.Node) (api.Errno, []letter.Letter) { return n.Move(1), nil },
		"Cut":   func(n *bough.Node) (api.Errno, []letter.Letter) { return n.Cut(), nil },
		"Update": func(n *bough.Node) (api.Errno, []letter.Letter) {
			return api.ErrDead, n.Hear(update(1, 2, 1, 9, 0, 3, 4, nil))
		},
		"Offer": func(n *bough.Node) (api.Errno, []letter.Letter) {
			return api.ErrDead, n.Hear(offer(4, 1, 1, 3, 3, 1, 1, "4/1 put b 1", "4/2 put b 1"))
		},
	}
	for name, call := range calls {
		who := map[bool]int{true: 1, false: 2}[name == "Offer"]
		for budget := range 40 {
			n, s := fresh(t, who)
			if who == 2 {
				hears(t, n, update(1, 2, 1, 5, 0, 0, 3, nil))
			} else {
				hears(t, n, hello(4, 1, 1, 0), update(1, 4, 1, 1025, 0, 0, 0, nil))
			}
			n.Watch("b")
			s.Arm(budget)
			e, l := call(n)
			if !s.Dead() {
				if n.Down() || e != api.OK && who == 2 && name != "Update" || budget == 0 {
					t.Errorf("%s, a budget of %d: %d", name, budget, e)
				}
				break
			}
			if e != api.ErrDead || len(l) != 0 || !n.Down() || len(n.Events()) != 0 {
				t.Errorf("%s, a budget of %d: %d, %s", name, budget, e, tell(l))
			}
		}
	}
}
