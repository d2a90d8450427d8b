package warden_test

import (
	"math"
	"math/rand"
	"slices"
	"strconv"
	"strings"
	"testing"

	"spinney/api"
	"spinney/arbor"
	"spinney/deed"
	"spinney/reach"
	"spinney/trellis"
	"spinney/warden"
)

const least, greatest = math.MinInt, math.MaxInt

func op(s string) api.Op {
	o, e := deed.Read(s)
	if e != api.OK {
		panic("no operation: " + s)
	}
	return o
}

func tree(s string) trellis.Tree {
	if s != "" {
		s = strings.ReplaceAll(s, ";", "\n") + "\n"
	}
	t, e := trellis.Read(s)
	if e != api.OK {
		panic("no tree: " + s)
	}
	return t
}

func made(t *testing.T, s string, patience int) *warden.Warden {
	t.Helper()
	w, e := warden.New(tree(s), patience)
	if e != api.OK {
		t.Fatalf("New: %d", e)
	}
	return w
}

// ups are those that are up, all of so many but these.
func ups(n int, down ...int) []bool {
	up := slices.Repeat([]bool{true}, n)
	for _, d := range down {
		up[d] = false
	}
	return up
}

// begin are the parents to begin with.
func begin(x trellis.Tree) []int {
	var l []int
	for _, s := range x {
		l = append(l, s.Parent)
	}
	return l
}

// looks looks at what a look calls, and at the counts behind it.
func looks(t *testing.T, w *warden.Warden, up []bool, parents []int, counts []int, calls ...warden.Call) {
	t.Helper()
	got, e := w.Look(up, parents)
	if e != api.OK || !slices.Equal(got, calls) || !slices.Equal(w.Counts(), counts) {
		t.Fatalf("Look: %v, %d, counts %v, want %v, %v", got, e, w.Counts(), calls, counts)
	}
}

func TestP27_1_Example(t *testing.T) {
	w := made(t, "hub 0 *;device 1 *", 2)
	looks(t, w, ups(3, 1), []int{-1, 0, 1}, []int{0, 0, 1})
	looks(t, w, ups(3, 1), []int{-1, 0, 1}, []int{0, 0, 0}, warden.Call{Device: 2, To: 0})
}

func TestP27_1_New(t *testing.T) {
	bad := tree("hub 0 *")
	bad[1].Parent = 1
	for _, c := range []struct {
		x        trellis.Tree
		patience int
		want     api.Errno
	}{{tree(""), 1, api.OK}, {tree("device 0 *"), 1000, api.OK}, {nil, 5, api.ErrForm}, {bad, 0, api.ErrForm}, {tree(""), 0, api.ErrRange}, {tree(""), 1001, api.ErrRange}, {tree(""), -1, api.ErrRange}, {tree(""), least, api.ErrRange}, {tree(""), greatest, api.ErrRange}} {
		w, e := warden.New(c.x, c.patience)
		if e != c.want || (w == nil) != (e != api.OK) {
			t.Errorf("New, patience %d: %d, want %d", c.patience, e, c.want)
		}
		if e == api.OK && !slices.Equal(w.Counts(), make([]int, len(c.x))) {
			t.Errorf("counts %v", w.Counts())
		}
	}
}

// Looks just ahead of, and just at the patience; of 1 and of 1000.
func TestP27_1_Patience(t *testing.T) {
	for _, patience := range []int{1, 2, 3, 1000} {
		w := made(t, "hub 0 *;hub 1 *;device 2 *", patience)
		for round := range 3 {
			for i := 1; i < patience; i++ {
				looks(t, w, ups(4, 2), []int{-1, 0, 1, 2}, []int{0, 0, 0, i})
			}
			looks(t, w, ups(4, 2), []int{-1, 0, 1, 2}, make([]int, 4), warden.Call{Device: 3, To: 1})
			if patience == 1 || round == 0 {
				continue
			}
			// One look that finds it not, or the device not up: it begins anew.
			for _, between := range [][]bool{ups(4), ups(4, 3), ups(4, 2, 3)} {
				for i := 1; i < patience; i++ {
					looks(t, w, ups(4, 2), []int{-1, 0, 1, 2}, []int{0, 0, 0, i})
				}
				looks(t, w, between, []int{-1, 0, 1, 2}, make([]int, 4))
			}
			// So does one at which it hangs on another one.
			looks(t, w, ups(4, 2), []int{-1, 0, 1, 2}, []int{0, 0, 0, 1})
			looks(t, w, ups(4, 2), []int{-1, 0, 1, 1}, make([]int, 4))
		}
	}
}

// The parent of now counts, and what is over it to begin with; the call is to the nearest that isn't cut off.
func TestP27_1_CutOff(t *testing.T) {
	const s = "hub 0 *;hub 1 *;hub 2 *;device 3 *;hub 0 *;device 5 *;device 0 *;hub 5 *"
	for _, c := range []struct {
		down    []int
		parents []int // of the devices 4, 6, 7
		want    []warden.Call
	}{
		{nil, []int{3, 5, 0}, nil},
		{[]int{3}, []int{3, 5, 0}, []warden.Call{{Device: 4, To: 2}}},
		{[]int{2}, []int{3, 5, 0}, []warden.Call{{Device: 4, To: 1}}}, // its parent is up, but cut off
		{[]int{1}, []int{3, 5, 0}, []warden.Call{{Device: 4, To: 0}}},
		{[]int{1, 3}, []int{3, 5, 0}, []warden.Call{{Device: 4, To: 0}}},
		{[]int{3}, []int{2, 3, 3}, []warden.Call{{Device: 6, To: 2}, {Device: 7, To: 2}}},
		{[]int{3, 5}, []int{3, 8, 0}, []warden.Call{{Device: 4, To: 2}, {Device: 6, To: 0}}},
		{[]int{8}, []int{8, 8, 8}, []warden.Call{{Device: 4, To: 5}, {Device: 6, To: 5}, {Device: 7, To: 5}}},
		{[]int{8, 6}, []int{8, 8, 8}, []warden.Call{{Device: 4, To: 5}, {Device: 7, To: 5}}},
		{[]int{1, 5}, []int{0, 0, 0}, nil},
		{[]int{0}, []int{3, 5, 0}, nil}, // nobody is there
		{[]int{0, 3, 5}, []int{3, 5, 0}, nil},
	} {
		w := made(t, s, 1)
		parents := begin(tree(s))
		parents[4], parents[6], parents[7] = c.parents[0], c.parents[1], c.parents[2]
		got, e := w.Look(ups(9, c.down...), parents)
		if e != api.OK || !slices.Equal(got, c.want) {
			t.Errorf("down %v, parents %v: %v, %d, want %v", c.down, c.parents, got, e, c.want)
		}
	}
}

// Where nobody over the parent is there the count stays at the patience, and the call comes as soon as one is.
func TestP27_1_NobodyOver(t *testing.T) {
	w := made(t, "hub 0 *;device 1 *;device 0 *", 3)
	parents := []int{-1, 0, 1, 0}
	for i := range 8 {
		n := min(i+1, 3)
		looks(t, w, ups(4, 0), parents, []int{0, 0, n, n})
	}
	looks(t, w, ups(4, 1), parents, make([]int, 4), warden.Call{Device: 2, To: 0})
	for range 4 {
		w.Look(ups(4, 0, 1), parents)
	}
	looks(t, w, ups(4, 0), parents, []int{0, 0, 3, 3})
	looks(t, w, ups(4), parents, make([]int, 4)) // both are there again
}

func TestP27_1_LookWhatCanNotBe(t *testing.T) {
	x := "hub 0 *;device 1 *;device 0 *"
	w := made(t, x, 3)
	looks(t, w, ups(4, 1), []int{-1, 0, 1, 0}, []int{0, 0, 1, 0})
	for _, c := range []struct {
		name    string
		up      []bool
		parents []int
	}{
		{"nothing", nil, nil}, {"too few", ups(3), []int{-1, 0, 1}}, {"too few that are up", ups(3), begin(tree(x))}, {"too few parents", ups(4, 1), []int{-1, 0, 1}}, {"too many", ups(5, 1), []int{-1, 0, 1, 0, 0}}, {"too many that are up", ups(5, 1), begin(tree(x))}, {"too many parents", ups(4, 1), []int{-1, 0, 1, 0, 0}},
		{"a parent that is a device", ups(4, 1), []int{-1, 0, 3, 0}}, {"itself", ups(4, 1), []int{-1, 0, 2, 0}}, {"below 0", ups(4, 1), []int{-1, 0, 1, -1}}, {"too great", ups(4, 1), []int{-1, 0, 1, 4}}, {"the least", ups(4, 1), []int{-1, 0, least, 0}}, {"the greatest", ups(4, 1), []int{-1, 0, 1, greatest}}, {"of one that is down", ups(4, 1, 3), []int{-1, 0, 1, 7}},
	} {
		for range 3 {
			if got, e := w.Look(c.up, c.parents); e != api.ErrRange || got != nil || !slices.Equal(w.Counts(), []int{0, 0, 1, 0}) {
				t.Errorf("%s: %v, %d, counts %v", c.name, got, e, w.Counts())
			}
		}
	}
	// What is told of nodes that are no devices is nothing to it.
	looks(t, w, ups(4, 1), []int{99, least, 1, 0}, []int{0, 0, 2, 0})
	y := made(t, "hub 0 *;hub 1 *", 1) // a tree without devices
	for range 3 {
		looks(t, y, ups(3, 1), []int{-1, 0, 1}, []int{0, 0, 0})
	}
	looks(t, made(t, "", 1), []bool{false}, []int{5}, []int{0})
}

// hand is a warden by hand: of each device what each look found.
func hand(x trellis.Tree, patience int, count []int, up []bool, parents []int) (calls []warden.Call) {
	cut := func(n int) bool {
		for n >= 0 {
			if !up[n] {
				return true
			}
			n = x[n].Parent
		}
		return false
	}
	for d := range x {
		if x[d].Kind != trellis.Device {
			continue
		}
		if !up[d] || !cut(parents[d]) {
			count[d] = 0
			continue
		}
		if count[d]++; count[d] >= patience {
			count[d] = patience
			for n := x[parents[d]].Parent; n >= 0; n = x[n].Parent {
				if !cut(n) {
					calls = append(calls, warden.Call{Device: d, To: n})
					count[d] = 0
					break
				}
			}
		}
	}
	return calls
}

// P27.2: looks by chance; a call is to one that isn't cut off, over the parent, whose reach covers the device's.
func TestP27_2_ByChance(t *testing.T) {
	r := rand.New(rand.NewSource(27))
	called := 0
	for _, s := range []string{"device 0 *", "hub 0 *;hub 1 *;hub 2 *;device 3 *;hub 0 *;device 5 *;device 0 *;hub 5 *;device 8 *", "hub 0 a,b;hub 1 a;device 2 a.x;device 1 b;device 2 a;hub 0 b;device 6 b"} {
		x := tree(s)
		for range 60 {
			patience := 1 + r.Intn(4)
			w := made(t, s, patience)
			count, parents := make([]int, len(x)), begin(x)
			for range 80 {
				up := ups(len(x))
				for n := range up {
					up[n] = r.Intn(5) > 0 || n == 0 && r.Intn(3) > 0
				}
				want := hand(x, patience, count, up, parents)
				looks(t, w, up, parents, count, want...)
				for _, c := range want {
					called++
					over := x[parents[c.Device]].Parent
					for over != c.To && over >= 0 {
						over = x[over].Parent
					}
					if over != c.To || !up[c.To] || !reach.Covers(x[c.To].Reach, x[c.Device].Reach) || trellis.May(x, c.Device, c.To) != api.OK {
						t.Fatalf("%v is called", c)
					}
					parents[c.Device] = c.To
				}
				if r.Intn(4) == 0 { // somebody moves a device elsewhere
					d := r.Intn(len(x))
					if to := r.Intn(len(x)); trellis.May(x, d, to) == api.OK {
						parents[d] = to
					}
				}
			}
		}
	}
	if called < 100 {
		t.Errorf("%d calls", called)
	}
}

func grown(t *testing.T, s string) *arbor.Arbor {
	t.Helper()
	a, e := arbor.New(tree(s), 3)
	if e != api.OK {
		t.Fatalf("New: %d", e)
	}
	return a
}

func TestP27_1_Watch(t *testing.T) {
	const s = "hub 0 *;hub 1 *;device 2 *;device 2 *;device 1 *"
	for _, patience := range []int{1, 2, 5} {
		w, a := made(t, s, patience), grown(t, s)
		for _, rounds := range []int{-1, 201, least, greatest} {
			if l, e := w.Watch(a, rounds); e != api.ErrRange || l != nil || a.Steps() != 0 {
				t.Errorf("Watch of %d rounds: %d", rounds, e)
			}
		}
		for _, other := range []string{"", "hub 0 *", s + ";device 1 *"} {
			if l, e := w.Watch(grown(t, other), 1); e != api.ErrRange || l != nil {
				t.Errorf("Watch over %q: %d", other, e)
			}
		}
		if l, e := w.Watch(a, 0); e != api.OK || len(l) != 0 || a.Steps() != 0 {
			t.Errorf("Watch of no round: %v, %d", l, e)
		}
		a.Do(arbor.Act{Kind: arbor.Crash, A: 2})
		a.Do(arbor.Act{Kind: arbor.Crash, A: 4})
		if l, e := w.Watch(a, patience-1); e != api.OK || len(l) != 0 {
			t.Errorf("patience %d: %v, %d", patience, l, e)
		}
		if n := w.Counts()[3]; n != patience-1 {
			t.Errorf("patience %d: the count is %d", patience, n)
		}
		if l, e := w.Watch(a, 1); e != api.OK || !slices.Equal(l, []warden.Call{{Device: 3, To: 1}}) || a.Report(3).Parent != 1 {
			t.Errorf("patience %d: %v, %d", patience, l, e)
		}
		if a.Up(2) || a.Up(4) {
			t.Error("somebody was started")
		}
		// The hub over it goes, too: what was moved is moved again, in one watch.
		a.Do(arbor.Act{Kind: arbor.Crash, A: 1})
		if l, e := w.Watch(a, patience+3); e != api.OK || !slices.Equal(l, []warden.Call{{Device: 3, To: 0}, {Device: 5, To: 0}}) {
			t.Errorf("patience %d: %v, %d", patience, l, e)
		}
		if l, e := w.Watch(a, 200); e != api.OK || len(l) != 0 {
			t.Errorf("patience %d: %v, %d", patience, l, e)
		}
	}
}

// A watch's round, step by step: parcels, ticks, a look, moves.
func TestP27_1_WatchStepByStep(t *testing.T) {
	const s = "hub 0 *;device 1 *;device 1 *;device 0 *"
	for _, rounds := range []int{1, 2, 5} {
		a, b := grown(t, s), grown(t, s)
		for _, x := range []arbor.Act{{Kind: arbor.Write, A: 2, Op: op("put a 1")}, {Kind: arbor.Tick, A: 2}, {Kind: arbor.Tick, A: 1}, {Kind: arbor.Crash, A: 1}, {Kind: arbor.Crash, A: 3}} {
			a.Do(x)
			b.Do(x)
		}
		made(t, s, 2).Watch(a, rounds)
		w := made(t, s, 2)
		for range rounds {
			for len(b.Air()) > 0 {
				b.Do(arbor.Act{Kind: arbor.Deliver})
			}
			up, parents := make([]bool, 5), make([]int, 5)
			for n := range up {
				if b.Up(n) {
					b.Do(arbor.Act{Kind: arbor.Tick, A: n})
				}
				up[n], parents[n] = b.Up(n), b.Report(n).Parent
			}
			l, _ := w.Look(up, parents)
			for _, c := range l {
				b.Do(arbor.Act{Kind: arbor.Move, A: c.Device, B: c.To})
			}
		}
		if a.Steps() != b.Steps() || len(a.Air()) != len(b.Air()) {
			t.Fatalf("%d rounds: %d steps, %d", rounds, a.Steps(), b.Steps())
		}
		for n := range 5 {
			p, q := a.Report(n), b.Report(n)
			if p.End != q.End || p.Parent != q.Parent || p.Turn != q.Turn || len(p.Queue) != len(q.Queue) || p.Joined != q.Joined {
				t.Errorf("%d rounds, node %d: %v, %v", rounds, n, p, q)
			}
		}
	}
}

// P27.3: hubs stay down for ever: what devices wrote comes to the root all the same.
func TestP27_3_NoHubIsNeeded(t *testing.T) {
	r := rand.New(rand.NewSource(273))
	for i, s := range []string{"hub 0 *;device 1 *", "hub 0 *;hub 1 *;device 2 *;device 1 *;device 2 *;hub 0 *;device 6 *", "hub 0 a,b;hub 1 a;device 2 a;device 1 b;device 0 *", "hub 0 *;hub 1 *;hub 2 *;device 3 *;device 3 a;device 2 *"} {
		x := tree(s)
		for patience := 1; patience <= 4; patience++ {
			for seed := range 4 {
				a := grown(t, s)
				for range 60 + 20*seed {
					n := r.Intn(len(x))
					switch k := r.Intn(10); {
					case k == 0 && x[n].Kind == trellis.Device && len(x[n].Reach) > 0:
						a.Do(arbor.Act{Kind: arbor.Write, A: n, Op: op("put " + x[n].Reach[0] + "a " + strconv.Itoa(r.Intn(9)))})
					case k < 5:
						a.Do(arbor.Act{Kind: arbor.Tick, A: n})
					default:
						a.Do(arbor.Act{Kind: arbor.Deliver, A: r.Intn(4)})
					}
				}
				for n := range x {
					if x[n].Kind == trellis.Device && len(x[n].Reach) > 0 {
						a.Do(arbor.Act{Kind: arbor.Write, A: n, Op: op("put " + x[n].Reach[0] + "b 1")})
					}
				}
				for n := range x {
					if x[n].Kind == trellis.Hub && (r.Intn(3) > 0 || seed == 0) {
						a.Do(arbor.Act{Kind: arbor.Crash, A: n, B: r.Intn(1 << 30)})
					}
				}
				made(t, s, patience).Watch(a, 8*patience+40)
				order := a.Report(0).Known
				for _, h := range a.History() {
					if h.Err == api.OK && !slices.Contains(order, api.Write{Id: h.Id, Op: h.Op}) {
						t.Fatalf("tree %d, patience %d, seed %d: %v isn't in the order", i, patience, seed, h.Id)
					}
				}
				for n := range x {
					if x[n].Kind == trellis.Device && len(a.Report(n).Queue) > 0 {
						t.Fatalf("tree %d, patience %d, seed %d: device %d has a queue", i, patience, seed, n)
					}
				}
			}
		}
	}
}
