package arbor_test

import (
	"math/rand"
	"slices"
	"strconv"
	"strings"
	"testing"

	"spinney/api"
	"spinney/arbor"
	"spinney/trellis"
)

// All acts end, and none panics.
func TestP9_AnyArguments(t *testing.T) {
	numbers := []int{least, least + 1, -1, 0, 1, 2, 3, 12, 63, 64, 400, 512, 4096, 1 << 30, 1 << 40, greatest}
	r := rand.New(rand.NewSource(9))
	any := func() int { return numbers[r.Intn(len(numbers))] }
	for _, x := range forest() {
		a := made(t, x, 3)
		for range 1500 {
			y := arbor.Act{Kind: r.Intn(18) - 1, A: any(), B: any(), C: any(), Key: strings.Repeat("a", r.Intn(3)*r.Intn(30)), Op: api.Op{Kind: r.Intn(6), Key: []string{"a", "", "A", "b"}[r.Intn(4)], A: num(any())}}
			if r.Intn(2) == 0 {
				y.A = r.Intn(len(x))
			}
			if y.Kind == arbor.Calm && r.Intn(4) > 0 {
				y.A = r.Intn(4)
			}
			a.Do(y)
			n := any()
			a.Up(n)
			a.Read(n, y.Key)
			a.Events(n)
			a.Report(n)
			a.Sure(n)
		}
	}
	for _, n := range numbers {
		arbor.New(trellis.Tree{{Kind: n, Parent: n}}, n)
		arbor.New(tree(""), n)
	}
}

// R1.
func TestP10_R1_IntHas64Bits(t *testing.T) {
	if strconv.IntSize != 64 {
		t.Errorf("an int has %d bits", strconv.IntSize)
	}
	a := made(t, tree("device 0 *"), 3)
	does(t, a, arbor.Act{Kind: arbor.Tick, A: 1<<32 + 1}, api.ErrRange)
}

// R2: of errors that hold the first.
func TestP10_R2_TheFirstError(t *testing.T) {
	a := made(t, tree("hub 0 *;device 1 *"), 3)
	does(t, a, arbor.Act{Kind: arbor.Crash, A: 1}, api.OK)
	does(t, a, arbor.Act{Kind: arbor.Write, A: 1}, api.ErrDown)          // a hub's, too, and no operation
	does(t, a, arbor.Act{Kind: arbor.Move, A: 1, B: 9}, api.ErrDown)     // a hub's, too, and to no node
	does(t, a, arbor.Act{Kind: arbor.Watch, A: 1, Key: ""}, api.ErrDown) // no key, too
	does(t, a, arbor.Act{Kind: arbor.Fail, A: 9}, api.ErrRange)
	does(t, a, arbor.Act{Kind: arbor.Spoil, A: 9, B: -1}, api.ErrRange)
	if _, e := arbor.New(nil, 0); e != api.ErrForm {
		t.Errorf("New: %d", e)
	}
}

// R3, R4: an act that is refused has changed nothing but the steps, and the history.
func TestP10_R4_NothingHasChanged(t *testing.T) {
	a := made(t, tree("hub 0 a,b;device 1 a"), 3)
	does(t, a, writes(2, "put a 1"), api.OK)
	does(t, a, arbor.Act{Kind: arbor.Tick, A: 2}, api.OK)
	does(t, a, arbor.Act{Kind: arbor.Turn, A: 0, B: 5}, api.OK)
	was := tell(a)
	for _, x := range []arbor.Act{{}, {Kind: 99}, {Kind: arbor.Tick, A: 9}, {Kind: arbor.Start, A: 1}, {Kind: arbor.Turn, A: 0, B: 6}, {Kind: arbor.Move, A: 2, B: 2}, {Kind: arbor.Fail, A: 2}, {Kind: arbor.Spoil, A: 1, B: -1}, {Kind: arbor.Arm, A: 1, B: -1}, {Kind: arbor.Watch, A: 2, Key: "b"}, writes(2, "put b 1")} {
		if a.Do(x) == api.OK {
			t.Errorf("%+v", x)
		}
		was.steps++
		was.history = a.History()
		if !same(tell(a), was) {
			t.Fatalf("%+v has changed something", x)
		}
	}
	if h := a.History(); len(h) != 2 || h[1] != (arbor.Record{Step: a.Steps(), Node: 2, Op: op("put b 1"), Err: api.ErrReach}) {
		t.Errorf("History: %v", h)
	}
}

// R5: a reach that is nil means the same as one that is empty.
func TestP10_R5_EmptyAndNil(t *testing.T) {
	for _, r := range []api.Reach{nil, {}} {
		a := made(t, append(tree(""), trellis.Spec{Kind: trellis.Device, Reach: r}), 3)
		does(t, a, writes(1, "put a 1"), api.ErrReach)
		does(t, a, arbor.Act{Kind: arbor.Calm, A: 5}, api.OK)
		if p := a.Report(1); !p.Joined || len(p.Cells) != 0 {
			t.Errorf("it is %v", p)
		}
	}
}

// P24.3, and R6: what is handed in stays, and isn't kept; what was told may be changed.
func TestP24_3_Memory(t *testing.T) {
	x := tree("hub 0 *;device 1 *")
	a := made(t, x, 3)
	if trellis.Text(x) != "hub 0 *\ndevice 1 *\n" {
		t.Error("the tree has changed")
	}
	for i := range x {
		x[i].Kind, x[i].Parent, x[i].Reach[0] = 9, 9, "z"
	}
	y := writes(2, "put a \"some\"")
	does(t, a, y, api.OK)
	if y.Op != op("put a \"some\"") {
		t.Error("the act has changed")
	}
	does(t, a, arbor.Act{Kind: arbor.Watch, A: 2, Key: "a"}, api.OK)
	does(t, a, arbor.Act{Kind: arbor.Calm, A: 3}, api.OK)
	does(t, a, writes(2, "put a 5"), api.OK)
	does(t, a, arbor.Act{Kind: arbor.Tick, A: 2}, api.OK)
	was := tell(a)
	for range 2 {
		h, p, r := a.History(), a.Air(), a.Report(2)
		s, _ := a.Sure(2)
		e := a.Events(2)
		for i := range p {
			clear(p[i].Bytes[:cap(p[i].Bytes)])
		}
		clear(h[:cap(h)])
		clear(p[:cap(p)])
		clear(e[:cap(e)])
		for _, l := range [][]api.Write{r.Queue, r.Tail, r.Known, s.Queue, s.Tail} {
			clear(l[:cap(l)])
		}
		clear(r.Cells[:cap(r.Cells)])
		clear(r.Sessions[:cap(r.Sessions)])
		clear(s.Stem.Cells)
		clear(s.Stem.Lines)
		clear(s.Reach)
		if !same(tell(a), was) {
			t.Fatal("an answer shares memory")
		}
	}
	h := a.History()
	does(t, a, writes(2, "put b 1"), api.OK)
	if len(h) != 2 || !slices.Equal(h, a.History()[:2]) {
		t.Error("an answer has changed with the arbor")
	}
	does(t, a, arbor.Act{Kind: arbor.Calm, A: 9}, api.OK)
	if v, e := a.Read(0, "b"); e != api.OK || v != num(1) {
		t.Errorf("node 0 reads %v, %d", v, e)
	}
}

// R8: another arbor is nothing to this one.
func TestP10_R8_Alone(t *testing.T) {
	a, b := made(t, tree("device 0 *"), 3), made(t, tree("device 0 *"), 3)
	was := tell(b)
	does(t, a, writes(1, "put a 1"), api.OK)
	does(t, a, arbor.Act{Kind: arbor.Calm, A: 5}, api.OK)
	if !same(tell(b), was) {
		t.Error("another arbor has changed")
	}
}
