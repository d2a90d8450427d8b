package warden_test

import (
	"slices"
	"strconv"
	"testing"

	"spinney/api"
	"spinney/arbor"
	"spinney/trellis"
	"spinney/warden"
)

// All calls end, and none panics.
func TestP9_AnyArguments(t *testing.T) {
	numbers := []int{least, -1, 0, 1, 2, 3, 200, 201, 1000, 1001, greatest}
	for _, n := range numbers {
		for _, m := range numbers {
			warden.New(trellis.Tree{{Kind: n, Parent: m}}, n)
			w := made(t, "hub 0 *;device 1 *", 2)
			for _, up := range [][]bool{nil, ups(3), ups(3, 0, 1), ups(4)} {
				w.Look(up, []int{n, m, n})
				w.Look(up, []int{n, m, n, m})
				w.Look(up, nil)
				w.Counts()
			}
			if n < 100 || n > 200 {
				w.Watch(grown(t, "hub 0 *;device 1 *"), n)
			}
		}
	}
	// An arbor of another tree of as many nodes.
	w, _ := warden.New(tree("hub 0 *;hub 1 *;device 2 *"), 1)
	a := grown(t, "device 0 *;device 0 *;device 0 *")
	a.Do(arbor.Act{Kind: arbor.Crash, A: 2})
	w.Watch(a, 5)
}

// R1.
func TestP10_R1_IntHas64Bits(t *testing.T) {
	if strconv.IntSize != 64 {
		t.Errorf("an int has %d bits", strconv.IntSize)
	}
	if _, e := made(t, "device 0 *", 2).Look(ups(2), []int{0, 1 << 32}); e != api.ErrRange {
		t.Errorf("Look: %d", e)
	}
}

// R2, R3: of errors that hold the first; beside it stands nothing.
func TestP10_R3_BesideAnError(t *testing.T) {
	if w, e := warden.New(nil, 0); w != nil || e != api.ErrForm {
		t.Errorf("New: %d", e)
	}
	w := made(t, "hub 0 *;device 1 *", 1)
	if l, e := w.Look(ups(3, 1), []int{0, 0, 2}); l != nil || e != api.ErrRange {
		t.Errorf("Look: %v, %d", l, e)
	}
	if l, e := w.Watch(grown(t, "device 0 *"), -1); l != nil || e != api.ErrRange {
		t.Errorf("Watch: %v, %d", l, e)
	}
}

// R4: a watch that may not be has done nothing.
func TestP10_R4_NothingHasChanged(t *testing.T) {
	w, a := made(t, "hub 0 *;device 1 *", 2), grown(t, "hub 0 *;device 1 *")
	a.Do(arbor.Act{Kind: arbor.Tick, A: 2})
	w.Look(ups(3, 1), []int{-1, 0, 1})
	for range 3 {
		w.Watch(a, 201)
		w.Watch(grown(t, "device 0 *"), 3)
		w.Look(ups(2, 1), []int{-1, 0})
		if a.Steps() != 1 || len(a.Air()) != 1 || !slices.Equal(w.Counts(), []int{0, 0, 1}) {
			t.Errorf("%d steps, counts %v", a.Steps(), w.Counts())
		}
	}
}

// R5: lists that are nil mean the same as those that are empty.
func TestP10_R5_EmptyAndNil(t *testing.T) {
	for _, up := range [][]bool{nil, {}} {
		for _, parents := range [][]int{nil, {}} {
			if l, e := made(t, "", 1).Look(up, parents); l != nil || e != api.ErrRange {
				t.Errorf("Look: %v, %d", l, e)
			}
		}
	}
}

// P27.4, and R6: what is handed in stays, and isn't kept; answers are new memory.
func TestP27_4_Memory(t *testing.T) {
	x := tree("hub 0 *;device 1 *;device 1 *")
	w, _ := warden.New(x, 2)
	if trellis.Text(x) != "hub 0 *\ndevice 1 *\ndevice 1 *\n" {
		t.Error("the tree has changed")
	}
	for i := range x {
		x[i].Kind, x[i].Parent, x[i].Reach[0] = 9, 9, "z"
	}
	up, parents := append(make([]bool, 0, 9), ups(4, 1)...), append(make([]int, 0, 9), -1, 0, 1, 1)
	w.Look(up, parents)
	if !slices.Equal(up[:9], append(ups(4, 1), make([]bool, 5)...)) || !slices.Equal(parents[:9], []int{-1, 0, 1, 1, 0, 0, 0, 0, 0}) {
		t.Error("lists have changed")
	}
	clear(parents)
	c, d := w.Counts(), w.Counts()
	clear(c[:cap(c)])
	if !slices.Equal(d, []int{0, 0, 1, 1}) || !slices.Equal(w.Counts(), d) {
		t.Error("two answers share memory")
	}
	want := []warden.Call{{Device: 2, To: 0}, {Device: 3, To: 0}}
	l, _ := w.Look(ups(4, 1), []int{-1, 0, 1, 1})
	if !slices.Equal(l, want) {
		t.Errorf("Look: %v", l)
	}
	clear(l[:cap(l)])
	w.Look(ups(4, 1), []int{-1, 0, 1, 1})
	if m, _ := w.Look(ups(4, 1), []int{-1, 0, 1, 1}); !slices.Equal(m, want) {
		t.Errorf("Look: %v", m)
	}
	a := grown(t, "hub 0 *;device 1 *;device 1 *")
	a.Do(arbor.Act{Kind: arbor.Crash, A: 1})
	m, _ := w.Watch(a, 3)
	clear(m[:cap(m)])
	if n, e := w.Watch(a, 3); e != api.OK || len(n) != 0 || a.Report(2).Parent != 0 {
		t.Errorf("Watch: %v, %d", n, e)
	}
}

// R8: another warden is nothing to this one; the same looks answer the same.
func TestP10_R8_TheSameAgain(t *testing.T) {
	a, b := made(t, "hub 0 *;device 1 *", 2), made(t, "hub 0 *;device 1 *", 2)
	looks(t, a, ups(3, 1), []int{-1, 0, 1}, []int{0, 0, 1})
	looks(t, b, ups(3, 1), []int{-1, 0, 1}, []int{0, 0, 1})
	looks(t, a, ups(3, 1), []int{-1, 0, 1}, []int{0, 0, 0}, warden.Call{Device: 2})
	looks(t, b, ups(3, 1), []int{-1, 0, 1}, []int{0, 0, 0}, warden.Call{Device: 2})
}
