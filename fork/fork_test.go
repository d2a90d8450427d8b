package fork_test

import (
	"math"
	"math/rand"
	"reflect"
	"slices"
	"strconv"
	"strings"
	"testing"

	"spinney/api"
	"spinney/fork"
	"spinney/letter"
	"spinney/stamp"
)

const least, greatest = math.MinInt, math.MaxInt

var ab = api.Reach{"a", "b"}

func list(s string) []api.Write {
	var l []api.Write
	for _, f := range strings.Fields(s) {
		id, e := stamp.Read(f)
		if e != api.OK {
			panic(f)
		}
		l = append(l, api.Write{Id: id, Op: api.Op{Kind: api.Put, Key: "a." + strconv.Itoa(id.Seq), A: api.Value{Kind: api.Text, Text: "t" + f}}})
	}
	return l
}

// made is node 1's, whose stamps go on from 1024.
func made(t *testing.T, patience int) *fork.Fork {
	t.Helper()
	f, e := fork.New(1, patience, 1024)
	if e != api.OK {
		t.Fatalf("New: %d", e)
	}
	return f
}

func hello(child, life, turn, prefix int) letter.Letter {
	return letter.Letter{Kind: letter.Hello, From: child, To: 1, Life: life, Turn: turn, Prefix: prefix, Reach: ab}
}

func offer(child, life, turn, prefix, low, first, stamp int, l string) letter.Letter {
	return letter.Letter{Kind: letter.Offer, From: child, To: 1, Life: life, Turn: turn, Prefix: prefix, Low: low, First: first, Stamp: stamp, Writes: list(l)}
}

func session(child, life, turn, prefix, low, stamp, taken int, joined bool) fork.Session {
	return fork.Session{Child: child, Life: life, Turn: turn, Prefix: prefix, Low: low, Stamp: stamp, Taken: taken, Joined: joined, Reach: ab}
}

func same(a, b fork.Session) bool {
	x, y := a, b
	x.Reach, y.Reach = nil, nil
	return reflect.DeepEqual(x, y) && slices.Equal(a.Reach, b.Reach)
}

// has looks at all sessions that a fork tells, in the order of their children.
func has(t *testing.T, f *fork.Fork, want ...fork.Session) {
	t.Helper()
	var children []int
	low := 5000
	for _, x := range want {
		children = append(children, x.Child)
		if got, e := f.Session(x.Child); e != api.OK || !same(got, x) {
			t.Fatalf("Session(%d): %v, %d, want %v", x.Child, got, e, x)
		}
		if x.Joined {
			low = min(low, x.Low)
		}
	}
	if got := f.Children(); !slices.Equal(got, children) {
		t.Fatalf("Children: %v, want %v", got, children)
	}
	for child := -1; child < 13; child++ {
		if s, e := f.Session(child); !slices.Contains(children, child) && (e != api.ErrNone || !same(s, fork.Session{})) {
			t.Fatalf("Session(%d): %v, %d", child, s, e)
		}
	}
	for _, own := range []int{0, 1, 7, 4096, 5000} {
		if got := f.Low(own); got != min(own, low) {
			t.Fatalf("Low(%d): %d, want %d", own, got, min(own, low))
		}
	}
}

func hears(t *testing.T, f *fork.Fork, l letter.Letter, want fork.Word) {
	t.Helper()
	if got := f.Hear(l); got != want {
		t.Fatalf("%v means %d, want %d", l, got, want)
	}
}

func wants(t *testing.T, f *fork.Fork, l letter.Letter, ids string) {
	t.Helper()
	for range 2 {
		if got := f.Wants(l); !slices.Equal(got, list(ids)) {
			t.Fatalf("of %v it wants %v, not %s", l, stamp.Ids(got), ids)
		}
	}
}

func TestP20_1_Example(t *testing.T) {
	f := made(t, 3)
	hears(t, f, hello(3, 1, 1, 0), fork.Begun)
	has(t, f, session(3, 1, 1, 0, 0, 1024, 0, false))
	hears(t, f, offer(3, 1, 1, 0, 0, 1, 1, ""), fork.Offered)
	has(t, f, session(3, 1, 1, 0, 0, 1024, 0, true))
	hears(t, f, offer(3, 1, 2, 0, 0, 1, 1, ""), fork.Unknown)
	has(t, f, session(3, 1, 1, 0, 0, 1024, 0, true))
}

func TestP20_1_Words(t *testing.T) {
	if fork.Nothing != 0 || fork.Begun != 1 || fork.Offered != 2 || fork.Unknown != 3 {
		t.Errorf("words: %d, %d, %d, %d", fork.Nothing, fork.Begun, fork.Offered, fork.Unknown)
	}
}

func TestP20_1_New(t *testing.T) {
	for _, c := range []struct {
		node, patience, from int
		want                 api.Errno
	}{
		{0, 1, 0, api.OK}, {11, 1000, 1 << 40, api.OK}, {1, 5, 1024, api.OK},
		{-1, 1, 0, api.ErrRange}, {12, 1, 0, api.ErrRange}, {1, 0, 0, api.ErrRange}, {1, 1001, 0, api.ErrRange}, {1, -1, 0, api.ErrRange}, {1, 1, -1, api.ErrRange}, {1, 1, 1<<40 + 1, api.ErrRange}, {least, 1, 1, api.ErrRange}, {greatest, 1, 1, api.ErrRange}, {1, least, 1, api.ErrRange}, {1, greatest, 1, api.ErrRange}, {1, 1, least, api.ErrRange}, {1, 1, greatest, api.ErrRange},
	} {
		f, e := fork.New(c.node, c.patience, c.from)
		if e != c.want || (f == nil) != (e != api.OK) {
			t.Errorf("New(%d, %d, %d): %d, want %d", c.node, c.patience, c.from, e, c.want)
		}
		if e != api.OK {
			continue
		}
		has(t, f)
		l := hello((c.node+1)%12, 1, 1, 0)
		l.To = c.node
		hears(t, f, l, fork.Begun)
		if n, e := f.Stamp(l.From); n != c.from+1 || e != api.OK {
			t.Errorf("Stamp: %d, %d", n, e)
		}
	}
}

func TestP20_1_Hello(t *testing.T) {
	f := made(t, 9)
	hears(t, f, hello(3, 5, 2, 7), fork.Begun)
	has(t, f, session(3, 5, 2, 7, 0, 1024, 0, false))
	hears(t, f, hello(3, 5, 2, 7), fork.Begun) // the same prefix
	hears(t, f, hello(3, 5, 2, 6), fork.Begun) // a lesser one
	has(t, f, session(3, 5, 2, 7, 0, 1024, 0, false))
	l := hello(3, 5, 2, 9) // a greater one: of the same session the reach stays
	l.Reach = api.Reach{"a"}
	hears(t, f, l, fork.Begun)
	has(t, f, session(3, 5, 2, 9, 0, 1024, 0, false))
	f.Stamp(3)
	f.Took(3, 4)
	hears(t, f, offer(3, 5, 2, 9, 8, 1, 1025, ""), fork.Offered)
	now := session(3, 5, 2, 9, 8, 1025, 4, true)
	has(t, f, now)
	for _, x := range [][2]int{{5, 1}, {4, 2}, {4, 9}, {1, 1}} { // elder ones
		hears(t, f, hello(3, x[0], x[1], 50), fork.Nothing)
		has(t, f, now)
	}
	hears(t, f, hello(3, 5, 2, 1), fork.Begun)
	has(t, f, now)
	hears(t, f, hello(2, 1, 1, 0), fork.Begun) // another child
	has(t, f, session(2, 1, 1, 0, 0, 1024, 0, false), now)
	hears(t, f, hello(3, 5, 3, 2), fork.Begun) // later ones
	has(t, f, session(2, 1, 1, 0, 0, 1024, 0, false), session(3, 5, 3, 2, 0, 1024, 0, false))
	l = hello(3, 6, 1, 1)
	l.Reach = nil
	hears(t, f, l, fork.Begun)
	last := session(3, 6, 1, 1, 0, 1024, 0, false)
	last.Reach = nil
	has(t, f, session(2, 1, 1, 0, 0, 1024, 0, false), last)
	hears(t, f, hello(0, 1<<30, 1<<20, 4096), fork.Begun)
	has(t, f, session(0, 1<<30, 1<<20, 4096, 0, 1024, 0, false), session(2, 1, 1, 0, 0, 1024, 0, false), last)
}

func TestP20_1_Offer(t *testing.T) {
	f := made(t, 9)
	for _, l := range []letter.Letter{offer(3, 5, 2, 9, 8, 1, 0, ""), offer(3, 5, 2, 9, 8, 1, 7, "3/1")} { // of a child without a session
		hears(t, f, l, fork.Unknown)
		has(t, f)
	}
	hears(t, f, hello(3, 5, 2, 7), fork.Begun)
	hears(t, f, offer(3, 5, 2, 7, 3, 1, 0, ""), fork.Offered) // of the stamp 0 it isn't joined
	has(t, f, session(3, 5, 2, 7, 3, 1024, 0, false))
	hears(t, f, offer(3, 5, 2, 6, 2, 1, 1000, ""), fork.Offered) // all of them lesser
	has(t, f, session(3, 5, 2, 7, 3, 1024, 0, true))
	hears(t, f, offer(3, 5, 2, 8, 2, 1, 1000, ""), fork.Offered) // one of them greater
	has(t, f, session(3, 5, 2, 8, 3, 1024, 0, true))
	hears(t, f, offer(3, 5, 2, 7, 6, 1, 1000, ""), fork.Offered)
	has(t, f, session(3, 5, 2, 8, 6, 1024, 0, true))
	hears(t, f, offer(3, 5, 2, 7, 5, 1, 5000, ""), fork.Offered)
	now := session(3, 5, 2, 8, 6, 5000, 0, true)
	has(t, f, now)
	if n, e := f.Stamp(3); n != 5001 || e != api.OK {
		t.Errorf("Stamp: %d, %d", n, e)
	}
	now.Stamp = 5001
	hears(t, f, offer(3, 5, 2, 8, 6, 1, 0, ""), fork.Offered) // joined it stays
	has(t, f, now)
	for _, x := range [][2]int{{5, 1}, {4, 2}, {4, 9}} {
		hears(t, f, offer(3, x[0], x[1], 50, 50, 1, 9000, "3/1"), fork.Nothing)
		has(t, f, now)
	}
	for _, x := range [][2]int{{5, 3}, {6, 2}, {6, 1}} {
		hears(t, f, offer(3, x[0], x[1], 50, 50, 1, 9000, "3/1"), fork.Unknown)
		has(t, f, now)
	}
}

// A low just below the floor, and just at it; a floor that is told lower stays.
func TestP20_1_Floor(t *testing.T) {
	f := made(t, 9)
	f.Floor(10)
	f.Floor(4)
	f.Floor(-5)
	hears(t, f, hello(3, 1, 1, 20), fork.Begun)
	hears(t, f, offer(3, 1, 1, 20, 9, 1, 1025, ""), fork.Offered)
	has(t, f, session(3, 1, 1, 20, 9, 1025, 0, false))
	hears(t, f, offer(3, 1, 1, 20, 10, 1, 0, ""), fork.Offered)
	has(t, f, session(3, 1, 1, 20, 10, 1025, 0, false))
	// What it told last counts, not the greatest low.
	hears(t, f, offer(3, 1, 1, 20, 9, 1, 1025, ""), fork.Offered)
	has(t, f, session(3, 1, 1, 20, 10, 1025, 0, false))
	hears(t, f, offer(3, 1, 1, 20, 10, 1, 1025, ""), fork.Offered)
	has(t, f, session(3, 1, 1, 20, 10, 1025, 0, true))
	f.Floor(11) // what is joined stays so
	has(t, f, session(3, 1, 1, 20, 10, 1025, 0, true))
	hears(t, f, hello(3, 1, 2, 20), fork.Begun)
	hears(t, f, offer(3, 1, 2, 20, 10, 1, 1025, ""), fork.Offered)
	has(t, f, session(3, 1, 2, 20, 10, 1025, 0, false))
	hears(t, f, offer(3, 1, 2, 20, 11, 1, 1025, ""), fork.Offered)
	has(t, f, session(3, 1, 2, 20, 11, 1025, 0, true))
	f = made(t, 9)
	f.Floor(-1)
	hears(t, f, hello(3, 1, 1, 0), fork.Begun)
	hears(t, f, offer(3, 1, 1, 0, 0, 1, 1, ""), fork.Offered)
	has(t, f, session(3, 1, 1, 0, 0, 1024, 0, true))
}

// All that means nothing, and changes nothing.
func TestP20_1_WhatMeansNothing(t *testing.T) {
	f := made(t, 9)
	hears(t, f, hello(3, 5, 2, 7), fork.Begun)
	hears(t, f, offer(3, 5, 2, 7, 6, 1, 1030, ""), fork.Offered)
	now := session(3, 5, 2, 7, 6, 1030, 0, true)
	for _, kind := range []int{letter.Update, letter.Reset} {
		for child := range 12 {
			for _, turn := range []int{1, 2, 3} {
				hears(t, f, letter.Letter{Kind: kind, From: child, To: 1, Life: 5, Turn: turn}, fork.Nothing)
				has(t, f, now)
			}
		}
	}
	for to := range 12 {
		for _, l := range []letter.Letter{hello(3, 9, 9, 9), offer(3, 5, 2, 9, 9, 1, 9999, "3/1"), offer(4, 5, 2, 9, 9, 1, 9999, "3/1"), hello(4, 1, 1, 1)} {
			if l.To = to; to == 1 || to == l.From {
				continue
			}
			hears(t, f, l, fork.Nothing)
			wants(t, f, l, "")
			has(t, f, now)
		}
	}
	for _, l := range []letter.Letter{hello(1, 9, 9, 9), offer(1, 5, 2, 9, 9, 1, 9999, "3/1")} { // of the node itself
		hears(t, f, l, fork.Nothing)
		wants(t, f, l, "")
		has(t, f, now)
	}
}

func TestP20_1_Wants(t *testing.T) {
	of := func(first int, l string) letter.Letter { return offer(3, 1, 1, 0, 0, first, 1, l) }
	f := made(t, 9)
	wants(t, f, of(1, "3/1"), "") // there is no session
	hears(t, f, hello(3, 1, 1, 0), fork.Begun)
	wants(t, f, of(1, ""), "")
	wants(t, f, of(1, "3/1 3/2"), "3/1 3/2")
	wants(t, f, of(0, "3/1 3/2"), "")
	for _, kind := range []int{letter.Hello, letter.Update, letter.Reset} {
		l := of(1, "3/1")
		l.Kind = kind
		wants(t, f, l, "")
	}
	for _, x := range [][2]int{{1, 2}, {2, 1}, {2, 2}} { // of another session
		wants(t, f, offer(3, x[0], x[1], 0, 0, 1, 1, "3/1"), "")
	}
	wants(t, f, offer(4, 1, 1, 0, 0, 1, 1, "3/1"), "")
	has(t, f, session(3, 1, 1, 0, 0, 1024, 0, false))
	for _, n := range []int{0, 1, 1} {
		if e := f.Took(3, n); e != api.OK {
			t.Errorf("Took: %d", e)
		}
	}
	has(t, f, session(3, 1, 1, 0, 0, 1024, 2, false))
	wants(t, f, of(1, "3/1 3/2"), "")
	wants(t, f, of(1, "3/1 3/2 3/3 3/4"), "3/3 3/4")
	wants(t, f, of(2, "3/2 3/3 3/4"), "3/3 3/4")
	wants(t, f, of(3, "3/3 3/4"), "3/3 3/4") // just behind what is taken
	has(t, f, session(3, 1, 1, 0, 0, 1024, 2, false))
	wants(t, f, of(4, "3/4 3/5"), "3/4 3/5") // the third counts as taken
	has(t, f, session(3, 1, 1, 0, 0, 1024, 3, false))
	wants(t, f, of(3, "3/3 3/4"), "3/4")
	f.Took(3, 2)
	has(t, f, session(3, 1, 1, 0, 0, 1024, 5, false))
	wants(t, f, of(100, ""), "") // far above
	has(t, f, session(3, 1, 1, 0, 0, 1024, 99, false))
	wants(t, f, of(1<<40, "3/9"), "3/9")
	has(t, f, session(3, 1, 1, 0, 0, 1024, 1<<40-1, false))
	wants(t, f, of(1, "3/9"), "")
	has(t, f, session(3, 1, 1, 0, 0, 1024, 1<<40-1, false))
}

func TestP20_1_TookAndStamp(t *testing.T) {
	f := made(t, 9)
	for _, child := range []int{3, 0, 1, -1, 12, least, greatest} {
		if e := f.Took(child, 1); e != api.ErrNone {
			t.Errorf("Took of %d: %d", child, e)
		}
		if e := f.Took(child, -1); e != api.ErrNone {
			t.Errorf("Took of %d: %d", child, e)
		}
		if n, e := f.Stamp(child); e != api.ErrNone || n != 0 {
			t.Errorf("Stamp of %d: %d", child, e)
		}
	}
	hears(t, f, hello(3, 1, 1, 0), fork.Begun)
	hears(t, f, hello(4, 1, 1, 0), fork.Begun)
	for _, n := range []int{-1, least} {
		if e := f.Took(3, n); e != api.ErrRange {
			t.Errorf("Took of less than none: %d", e)
		}
	}
	for i := range 5 {
		if n, e := f.Stamp(3); n != 1025+i || e != api.OK {
			t.Errorf("Stamp: %d, %d", n, e)
		}
		f.Took(4, i)
	}
	has(t, f, session(3, 1, 1, 0, 0, 1029, 0, false), session(4, 1, 1, 0, 0, 1024, 10, false))
}

// Sessions that are heard again just ahead of the tick with which they were gone, and that aren't.
func TestP20_1_Tick(t *testing.T) {
	for _, patience := range []int{1, 2, 3, 1000} {
		f := made(t, patience)
		if gone := f.Tick(); len(gone) != 0 {
			t.Errorf("gone: %v", gone)
		}
		for _, child := range []int{7, 3, 5, 0} {
			hears(t, f, hello(child, 1, 1, 0), fork.Begun)
		}
		for range patience - 1 {
			if gone := f.Tick(); len(gone) != 0 {
				t.Fatalf("patience %d, gone: %v", patience, gone)
			}
		}
		hears(t, f, hello(3, 1, 1, 0), fork.Begun)
		hears(t, f, offer(5, 1, 1, 0, 0, 1, 0, ""), fork.Offered)
		hears(t, f, offer(7, 1, 2, 0, 0, 1, 0, ""), fork.Unknown) // nothing of this one is heard
		hears(t, f, letter.Letter{Kind: letter.Reset, To: 1, Life: 1, Turn: 1}, fork.Nothing)
		want := []int{0, 7}
		if patience == 1 {
			want = []int{0, 3, 5, 7}
		}
		if gone := f.Tick(); !slices.Equal(gone, want) {
			t.Fatalf("patience %d, gone: %v, want %v", patience, gone, want)
		}
		if patience == 1 {
			has(t, f)
			continue
		}
		has(t, f, session(3, 1, 1, 0, 0, 1024, 0, false), session(5, 1, 1, 0, 0, 1024, 0, false))
		hears(t, f, offer(7, 1, 1, 0, 0, 1, 0, ""), fork.Unknown) // it is none any more
		hears(t, f, hello(7, 1, 1, 4), fork.Begun)                // and begins again, an elder one, too
		for range patience - 2 {
			f.Tick()
		}
		hears(t, f, hello(3, 1, 1, 0), fork.Begun)
		if gone := f.Tick(); !slices.Equal(gone, []int{5}) {
			t.Fatalf("patience %d, gone: %v", patience, gone)
		}
		want = []int{7}
		if patience == 2 {
			want = []int{3, 7}
		}
		if gone := f.Tick(); !slices.Equal(gone, want) {
			t.Fatalf("patience %d, gone: %v, want %v", patience, gone, want)
		}
	}
}

func TestP20_1_Low(t *testing.T) {
	f := made(t, 9)
	for child, low := range map[int]int{2: 9, 3: 4, 4: 6} {
		hears(t, f, hello(child, 1, 1, 20), fork.Begun)
		hears(t, f, offer(child, 1, 1, 20, low, 1, 0, ""), fork.Offered)
	}
	if n := f.Low(30); n != 30 {
		t.Errorf("Low with none joined: %d", n)
	}
	for _, c := range []struct{ child, low int }{{2, 9}, {4, 6}, {3, 4}} {
		hears(t, f, offer(c.child, 1, 1, 20, c.low, 1, 1, ""), fork.Offered)
		if n := f.Low(30); n != c.low {
			t.Errorf("Low: %d, want %d", n, c.low)
		}
		if n := f.Low(3); n != 3 {
			t.Errorf("Low of 3: %d", n)
		}
	}
	hears(t, f, hello(3, 1, 2, 20), fork.Begun) // a new session isn't joined
	if n := f.Low(30); n != 6 {
		t.Errorf("Low: %d", n)
	}
	for range 9 {
		f.Tick()
	}
	if n := f.Low(30); n != 30 {
		t.Errorf("Low with none: %d", n)
	}
}

// P20.2, P20.3: letters by chance, beside sessions by hand.
func TestP20_2_ByChance(t *testing.T) {
	r := rand.New(rand.NewSource(20))
	for range 100 {
		patience := 1 + r.Intn(6)
		f := made(t, patience)
		model, ago := map[int]fork.Session{}, map[int]int{}
		floor, told := 0, map[int]int{}
		for range 300 {
			child := 2 + r.Intn(3)
			x, had := model[child]
			switch r.Intn(8) {
			case 0:
				floor = max(floor, r.Intn(60))
				f.Floor(floor)
			case 1:
				var gone []int
				for c := range 12 {
					if _, has := model[c]; has {
						if ago[c]++; ago[c] >= patience {
							gone = append(gone, c)
							delete(model, c)
						}
					}
				}
				if got := f.Tick(); !slices.Equal(got, gone) {
					t.Fatalf("gone: %v, want %v", got, gone)
				}
			case 2:
				if n, e := f.Stamp(child); had && (n != x.Stamp+1 || e != api.OK) || !had && e != api.ErrNone {
					t.Fatalf("Stamp: %d, %d", n, e)
				}
				if had {
					x.Stamp++
					model[child] = x
				}
			case 3, 4:
				l := hello(child, 1+r.Intn(3), 1+r.Intn(3), r.Intn(50))
				later := !had || l.Life > x.Life || l.Life == x.Life && l.Turn > x.Turn
				switch {
				case later:
					model[child], ago[child] = session(child, l.Life, l.Turn, l.Prefix, 0, 1024, 0, false), 0
					hears(t, f, l, fork.Begun)
				case l.Life == x.Life && l.Turn == x.Turn:
					x.Prefix = max(x.Prefix, l.Prefix)
					model[child], ago[child] = x, 0
					hears(t, f, l, fork.Begun)
				default:
					hears(t, f, l, fork.Nothing)
				}
			default:
				prefix := r.Intn(60)
				l := offer(child, 1+r.Intn(3), 1+r.Intn(3), prefix, r.Intn(prefix+1), r.Intn(5), r.Intn(2)*(1020+r.Intn(20)), "3/1 3/2 3/3"[:4*r.Intn(3)])
				if had && r.Intn(2) == 0 {
					l.Life, l.Turn = x.Life, x.Turn
				}
				later := !had || l.Life > x.Life || l.Life == x.Life && l.Turn > x.Turn
				switch {
				case later:
					hears(t, f, l, fork.Unknown)
					wants(t, f, l, "")
				case l.Life == x.Life && l.Turn == x.Turn:
					x.Prefix, x.Low, x.Stamp = max(x.Prefix, l.Prefix), max(x.Low, l.Low), max(x.Stamp, l.Stamp)
					if l.Stamp != 0 && l.Low >= floor {
						x.Joined = true
						told[child] = l.Low
					}
					hears(t, f, l, fork.Offered)
					var w []api.Write
					if l.First > 0 {
						x.Taken = max(x.Taken, l.First-1)
						for i, y := range l.Writes {
							if l.First+i > x.Taken {
								w = append(w, y)
							}
						}
					}
					if got := f.Wants(l); !slices.Equal(got, w) {
						t.Fatalf("it wants %v, want %v", stamp.Ids(got), stamp.Ids(w))
					}
					n := r.Intn(len(w) + 1)
					f.Took(child, n)
					x.Taken += n
					model[child], ago[child] = x, 0
				default:
					hears(t, f, l, fork.Nothing)
					wants(t, f, l, "")
				}
			}
			var all []fork.Session
			for c := range 12 {
				if x, has := model[c]; has {
					all = append(all, x)
				}
			}
			has(t, f, all...)
		}
	}
}
