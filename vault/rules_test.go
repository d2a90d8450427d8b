package vault_test

import (
	"math"
	"slices"
	"strconv"
	"testing"

	"spinney/api"
	"spinney/pith"
	"spinney/roll"
	"spinney/slate"
	"spinney/vault"
)

// All calls end, and none panics.
func TestP9_AnyArguments(t *testing.T) {
	for _, n := range []int{math.MinInt, -1, 0, 1, 5, 4096, math.MaxInt} {
		s := slate.New()
		vault.Make(s, pith.State{Node: n, Parent: n, Room: n, Life: n, Tail: []api.Write{{}}})
		v := made(t, s, state())
		for kind := -1; kind < 9; kind++ {
			v.Add(pith.Entry{Kind: kind, N: n, Start: n, End: n})
			v.Add(pith.Entry{Kind: kind, N: n})
			v.Add(pith.Entry{Kind: kind, Start: n, End: n, Lines: []roll.Line{{At: n}}, Tail: []api.Write{{}}})
			v.Sync()
			v.Pack()
		}
	}
	// Whatever stands on a slate: bytes of any kind in the peg's blocks and behind.
	for x := range 256 {
		s := slate.New()
		b := slices.Repeat([]byte{byte(x)}, 64)
		s.Write(0, x%2, b)
		s.Write(1, 0, b)
		vault.Open(s)
		vault.Make(s, state())
	}
}

// Many entries end soon, too.
func TestP9_ManyEntries(t *testing.T) {
	s := slate.New()
	v := made(t, s, state())
	for n := range 3000 {
		if e := v.Add(pith.Entry{Kind: pith.Born, N: n + 1}); e != api.OK {
			t.Fatalf("Add: %d", e)
		}
	}
	if e := v.Sync(); e != api.OK || v.Length() > 200 || opened(t, s.Crash(nil)).State().Life != 3000 {
		t.Errorf("Sync: %d", e)
	}
}

// R1.
func TestP10_R1_IntHas64Bits(t *testing.T) {
	if strconv.IntSize != 64 {
		t.Errorf("an int has %d bits", strconv.IntSize)
	}
	v := made(t, slate.New(), state())
	if e := v.Add(pith.Entry{Kind: pith.Born, N: 1<<32 + 1}); e != api.ErrRange {
		t.Errorf("Add: %d", e)
	}
}

// R2: of two errors that hold the first that the words name.
func TestP10_R2_TheFirstError(t *testing.T) {
	s := slate.New()
	s.Spoil(0, 1, 1)
	if _, e := vault.Make(s, pith.State{}); e != api.ErrRot {
		t.Errorf("Make: %d", e)
	}
	s = slate.New()
	v := made(t, s, state())
	if _, e := vault.Make(s, bulky(100001)); e != api.ErrTwice {
		t.Errorf("Make: %d", e)
	}
	s.Arm(0)
	if e := v.Add(pith.Entry{Kind: pith.Born}); e != api.ErrRange || s.Dead() {
		t.Errorf("Add of what can't be done, without a step: %d", e)
	}
	s = slate.New()
	s.Arm(0)
	bad := bulky(100001)
	bad.Life = -1
	if _, e := vault.Make(s, bad); e != api.ErrForm {
		t.Errorf("Make: %d", e)
	}
}

// R5: a list that is nil means the same as one that is empty.
func TestP10_R5_EmptyAndNil(t *testing.T) {
	for _, x := range []pith.State{{Node: 1, Room: 1}, {Node: 1, Room: 1, Reach: api.Reach{}, Tail: []api.Write{}, Queue: []api.Write{}}} {
		s := slate.New()
		v := made(t, s, x)
		is(t, s, v, x, x)
		for _, e := range []pith.Entry{{Kind: pith.Grew, End: 1}, {Kind: pith.Grew, End: 1, Lines: []roll.Line{}, Cells: []api.Cell{}, Tail: []api.Write{}}} {
			if v.Add(e) != api.OK || v.Sync() != api.OK {
				t.Error("Add, Sync")
			}
		}
		x.Stem.End = 1
		is(t, s, v, x, x)
	}
}

// rich is a state with something in each list, with spare room.
func rich() pith.State {
	x := done(state(), entries()[:4]...)
	x.Stem.Cells = append(make([]api.Cell, 0, 9), api.Cell{Key: "b", Value: num(5)})
	x.Queue, x.Tail, x.Stem.Lines = slices.Grow(x.Queue, 9), slices.Grow(x.Tail, 9), slices.Grow(x.Stem.Lines, 9)
	return x
}

func wipe(x pith.State) {
	clear(x.Reach[:cap(x.Reach)])
	clear(x.Stem.Cells[:cap(x.Stem.Cells)])
	clear(x.Stem.Lines[:cap(x.Stem.Lines)])
	clear(x.Tail[:cap(x.Tail)])
	clear(x.Queue[:cap(x.Queue)])
}

// P18.4, and R6: what is handed in stays, and isn't kept; answers are new memory.
func TestP18_4_Memory(t *testing.T) {
	s, x := slate.New(), rich()
	v := made(t, s, x)
	if !same(x, rich()) {
		t.Fatal("what was handed in has changed")
	}
	wipe(x)
	is(t, s, v, rich(), rich())
	e := pith.Entry{Kind: pith.Grew, Start: 2, End: 4, Lines: []roll.Line{{At: 2, Write: write("3/2 put b.1 2")}}, Tail: []api.Write{write("5/1 put a 1")}}
	if v.Add(e) != api.OK || e.Lines[0].Write != write("3/2 put b.1 2") || e.Tail[0] != write("5/1 put a 1") {
		t.Fatal("Add, or the entry has changed")
	}
	want := done(rich(), e)
	clear(e.Lines)
	clear(e.Tail)
	for range 2 {
		is(t, s, v, want, rich())
		a, b := v.State(), v.Sure()
		wipe(a)
		wipe(b)
	}
	v.Sync()
	a, b := v.State(), v.Sure()
	wipe(a)
	if !same(b, want) {
		t.Error("two answers share memory")
	}
	o := opened(t, s.Crash(nil))
	a, b = o.State(), o.Sure()
	wipe(a)
	if !same(b, want) || !same(o.State(), want) {
		t.Error("two answers share memory")
	}
	b = v.State()
	v.Add(pith.Entry{Kind: pith.Cut, N: 4})
	if !same(b, want) {
		t.Error("an answer has changed with the vault")
	}
}

// R8: two vaults on two slates that are asked the same are the same; another vault is nothing to them.
func TestP10_R8_TheSameAgain(t *testing.T) {
	a, b, c := slate.New(), slate.New(), slate.New()
	v, w, o := made(t, a, state()), made(t, b, state()), made(t, c, rich())
	for n := range 10 {
		x, y := act(v, n), act(w, n)
		o.Add(pith.Entry{Kind: pith.Born, N: n + 2})
		o.Sync()
		if x != y || !same(v.State(), w.State()) || !same(v.Sure(), w.Sure()) || v.Extent() != w.Extent() || a.Pending() != b.Pending() {
			t.Errorf("act %d: %d, %d", n, x, y)
		}
	}
}
