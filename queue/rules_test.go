package queue_test

import (
	"slices"
	"strconv"
	"strings"
	"testing"
	"unsafe"

	"spinney/api"
	"spinney/queue"
	"spinney/roll"
)

// All calls end, and none panics.
func TestP9_AnyArguments(t *testing.T) {
	numbers := []int{least, -1, 0, 1, 2, 11, 12, 13, 40, 41, 400, 401, 1 << 32, greatest}
	for _, room := range numbers {
		q, e := queue.New(room)
		if e != api.OK {
			continue
		}
		for _, n := range numbers {
			l := roll.Lasts{n, n, 5}
			for _, m := range numbers {
				w := api.Write{Id: api.Id{Dev: m, Seq: n}, Op: api.Op{Kind: n, Key: "\xff"}}
				q.Take(l, w)
				q.Take(roll.Lasts{}, w)
				q.Lasts(l)
				q.List()
				q.Len()
				q.Fill([]api.Write{w, {}, w})
				q.Settle(l)
			}
		}
	}
}

// Many writes end soon, too.
func TestP9_ManyWrites(t *testing.T) {
	q := made(t, 400, "1/1")
	if e := q.Fill(slices.Repeat(list("1/1 2/5 1/40"), 1<<16)); e != api.ErrFull {
		t.Errorf("Fill of many: %d", e)
	}
	has(t, q, "1/1")
}

// R1.
func TestP10_R1_IntHas64Bits(t *testing.T) {
	if strconv.IntSize != 64 {
		t.Errorf("an int has %d bits", strconv.IntSize)
	}
}

// R2: of two errors that hold the first that the words name.
func TestP10_R2_TheFirstError(t *testing.T) {
	q := made(t, 2, "1/1 1/2")
	if e := q.Take(roll.Lasts{}, write("1/2")); e != api.ErrTwice {
		t.Errorf("old, and no room: %d", e)
	}
	if e := q.Take(roll.Lasts{}, write("1/4")); e != api.ErrGap {
		t.Errorf("a gap, and no room: %d", e)
	}
	if e := q.Fill(list("1/1 1/3 1/5")); e != api.ErrFull {
		t.Errorf("too many, and not tight: %d", e)
	}
}

// R3, R4: beside an error stands nothing, and nothing has changed.
func TestP10_R4_NothingHasChanged(t *testing.T) {
	if q, e := queue.New(0); q != nil || e != api.ErrRange {
		t.Errorf("New(0): %d", e)
	}
	q := made(t, 3, "1/4 2/2 1/5")
	for range 3 {
		for _, s := range []string{"1/5", "1/7", "2/3", "3/1", "3/2"} {
			if e := q.Take(roll.Lasts{}, write(s)); e == api.OK {
				t.Errorf("Take of %s", s)
			}
		}
		for _, s := range []string{"1/1 1/2 1/3 1/4", "1/1 1/3", "1/2 1/1"} {
			if e := q.Fill(list(s)); e == api.OK {
				t.Errorf("Fill of %s", s)
			}
		}
		has(t, q, "1/4 2/2 1/5")
	}
}

// R5: a list that is nil means the same as one that is empty.
func TestP10_R5_EmptyAndNil(t *testing.T) {
	for _, l := range [][]api.Write{nil, {}, make([]api.Write, 0, 9), list("1/1 1/3")[:0]} {
		q := made(t, 2, "1/1")
		if e := q.Fill(l); e != api.OK || q.Settle(lasts("1/1")) != 0 {
			t.Errorf("Fill of none: %d", e)
		}
		has(t, q, "")
		if e := q.Take(roll.Lasts{}, write("1/1")); e != api.OK {
			t.Errorf("Take: %d", e)
		}
		has(t, q, "1/1")
	}
}

// own is a list in memory of its own, with others in its spare room.
func own(s string) []api.Write {
	l := list(s + " 9/9 9/9 9/9")
	for i := range l {
		o := &l[i].Op
		o.Key, o.A.Text, o.B.Text = strings.Clone(o.Key), strings.Clone(o.A.Text), strings.Clone(o.B.Text)
	}
	return l[:len(l)-3]
}

// P14.3, and R6: what is handed in stays, with its spare room, and isn't kept.
func TestP14_3_WhatIsHandedIn(t *testing.T) {
	l := own("1/4 2/2 1/5")
	was := slices.Clone(l[:cap(l)])
	q := made(t, 8, "")
	q.Fill(l)
	q.Take(lasts("2/2"), write("2/3"))
	q.Settle(lasts("1/4"))
	x := q.List()
	clear(x[:cap(x)])
	if !slices.Equal(l[:cap(l)], was) {
		t.Error("what was handed in has changed")
	}
	q.Fill(l)
	clear(l[:cap(l)])
	has(t, q, "1/4 2/2 1/5")
	known := lasts("1/5")
	w := own("1/6")[0]
	q.Take(known, w)
	known, w = roll.Lasts{}, api.Write{}
	has(t, q, "1/4 2/2 1/5 1/6")
}

// P14.3, and R6: what was told may be changed behind the call, its spare room, too.
func TestP14_3_AnswersAreNewMemory(t *testing.T) {
	q := made(t, 8, "1/4 2/2 1/5")
	for range 2 {
		x, y, l := q.List(), q.List(), q.Lasts(roll.Lasts{})
		clear(x[:cap(x)])
		l[1] = 40
		if !slices.Equal(y, list("1/4 2/2 1/5")) {
			t.Error("two answers share memory")
		}
		has(t, q, "1/4 2/2 1/5")
	}
	x := q.List()
	q.Settle(lasts("1/4"))
	q.Take(lasts("1/4"), write("1/6"))
	q.Fill(list("3/3"))
	if !slices.Equal(x, list("1/4 2/2 1/5")) {
		t.Error("an answer has changed with the queue")
	}
}

// shares tells whether two texts have bytes of one memory.
func shares(a, b string) bool {
	if a == "" || b == "" {
		return false
	}
	x, y := uintptr(unsafe.Pointer(unsafe.StringData(a))), uintptr(unsafe.Pointer(unsafe.StringData(b)))
	return x < y+uintptr(len(b)) && y < x+uintptr(len(a))
}

// P14.3: texts are new memory, too.
func TestP14_3_Texts(t *testing.T) {
	l := own("1/4 2/2 1/5")
	q := made(t, 8, "")
	q.Fill(l)
	one := own("1/6")
	q.Take(roll.Lasts{}, one[0])
	var all []string
	for _, x := range [][]api.Write{l, one, q.List(), q.List()} {
		for _, w := range x {
			all = append(all, w.Op.Key, w.Op.A.Text, w.Op.B.Text)
		}
	}
	for i, s := range all {
		if slices.ContainsFunc(all[i+1:], func(x string) bool { return shares(s, x) }) {
			t.Fatalf("text %d, %q, isn't new memory", i, s)
		}
	}
}

// R8: another queue is nothing to this one; the same calls answer the same.
func TestP10_R8_TheSameAgain(t *testing.T) {
	a, b := made(t, 2, "1/1"), made(t, 2, "1/1")
	b.Settle(lasts("1/1"))
	has(t, a, "1/1")
	for range 3 {
		c := made(t, 2, "1/1")
		if e := c.Take(roll.Lasts{}, write("1/2")); e != api.OK || c.Take(roll.Lasts{}, write("1/3")) != api.ErrFull || c.Settle(lasts("1/1")) != 1 {
			t.Error("another answer")
		}
		has(t, c, "1/2")
	}
}
