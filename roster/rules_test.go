package roster_test

import (
	"math/rand"
	"slices"
	"strconv"
	"strings"
	"testing"
	"unsafe"

	"spinney/api"
	"spinney/roll"
	"spinney/roster"
)

// numbers: whatever a device, or a Seq may be told as.
func numbers() []int {
	return []int{least, least + 1, -1 << 32, -12, -1, 0, 1, 5, 11, 12, 13, 40, 41, 42, 1 << 31, 1 << 32, 1<<32 + 1, greatest - 1, greatest}
}

// All calls end, and none panics.
func TestP9_AnyArguments(t *testing.T) {
	for _, n := range numbers() {
		all := []roll.Lasts{{}, {n}, {0, n, 5}, full()}
		for i := range all[1] {
			all[3][i] = n
		}
		for _, l := range all {
			for _, m := range numbers() {
				roster.Next(l, m)
				roster.Ask(l, api.Id{Dev: n, Seq: m})
				roster.Ask(l, api.Id{Dev: m, Seq: n})
				w := []api.Write{{Id: api.Id{Dev: m, Seq: n}}, {Id: api.Id{Dev: n, Seq: m}, Op: api.Op{Kind: n, Key: "\xff"}}, {}}
				roster.Of(l, w)
				roster.Left(l, w)
				for _, x := range all {
					roster.Join(l, x)
					roster.Covers(l, x)
				}
			}
		}
	}
}

// Many writes end soon, too.
func TestP9_ManyWrites(t *testing.T) {
	w := slices.Repeat(list("1/1 2/5 1/40 11/3"), 1<<16)
	if roster.Of(roll.Lasts{}, w) != lasts("1/40 2/5 11/3") || len(roster.Left(lasts("1/1 2/5"), w)) != 1<<17 {
		t.Error("many writes")
	}
}

// R1.
func TestP10_R1_IntHas64Bits(t *testing.T) {
	if strconv.IntSize != 64 {
		t.Errorf("an int has %d bits", strconv.IntSize)
	}
}

// R2, R3, R4: of all errors there is one alone, nothing stands beside it, and lasts are values: what was asked has changed nothing.
func TestP10_R4_NothingHasChanged(t *testing.T) {
	l, w := lasts("1/4 2/40"), list("1/4 1/5 1/6 2/40")
	for range 2 {
		for _, x := range w {
			roster.Ask(l, x.Id)
		}
		roster.Of(l, w)
		roster.Left(l, w)
		roster.Join(l, full())
		roster.Covers(l, full())
		roster.Next(l, 1)
		if l != lasts("1/4 2/40") || ids(w) != "1/4 1/5 1/6 2/40" {
			t.Errorf("%v, %s", l, ids(w))
		}
	}
}

// R5: a list that is nil means the same as one that is empty.
func TestP10_R5_EmptyAndNil(t *testing.T) {
	for _, w := range [][]api.Write{nil, {}, make([]api.Write, 0, 9), list("1/40 2/40")[:0]} {
		if roster.Of(lasts("1/4"), w) != lasts("1/4") || len(roster.Left(lasts("1/4"), w)) != 0 || len(roster.Left(roll.Lasts{}, w)) != 0 {
			t.Error("no writes")
		}
	}
}

// own is a list of writes in memory of its own, with others in its spare room.
func own() []api.Write {
	l := list("1/4 1/5 2/1 1/6 3/3 4/4 5/5")
	for i := range l {
		o := &l[i].Op
		o.Key, o.A.Text, o.B.Text = strings.Clone(o.Key), strings.Clone(o.A.Text), strings.Clone(o.B.Text)
	}
	return l[:5]
}

// P13.3, and R6: what is handed in stays, with its spare room.
func TestP13_3_WhatIsHandedInStays(t *testing.T) {
	w := own()
	was := slices.Clone(w[:cap(w)])
	for _, l := range []roll.Lasts{{}, lasts("1/4"), lasts("1/5 3/3"), full()} {
		for range 2 {
			roster.Of(l, w)
			x := roster.Left(l, w)
			clear(x[:cap(x)])
			if !slices.Equal(w[:cap(w)], was) {
				t.Fatalf("beside %v: what was handed in has changed", l)
			}
		}
	}
}

// P13.3, and R6: answers are new memory; what was handed in may be changed behind the call.
func TestP13_3_AnswersAreNewMemory(t *testing.T) {
	for _, l := range []roll.Lasts{{}, lasts("1/4"), lasts("1/5 3/3")} {
		w := own()
		want := slices.DeleteFunc(own(), func(x api.Write) bool { return x.Id.Seq <= l[x.Id.Dev] })
		x, y := roster.Left(l, w), roster.Left(l, w)
		clear(w[:cap(w)])
		if !slices.Equal(x, want) {
			t.Errorf("beside %v: the answer has changed with what was handed in: %s", l, ids(x))
		}
		clear(x[:cap(x)])
		if !slices.Equal(y, want) {
			t.Errorf("beside %v: two answers share memory", l)
		}
	}
}

// shares tells whether two texts have bytes of one memory.
func shares(a, b string) bool {
	if a == "" || b == "" {
		return false
	}
	x, y := uintptr(unsafe.Pointer(unsafe.StringData(a))), uintptr(unsafe.Pointer(unsafe.StringData(b)))
	return x < y+uintptr(len(b)) && y < x+uintptr(len(a))
}

// P13.3: the texts of what is left are new memory, too.
func TestP13_3_Texts(t *testing.T) {
	w := own()
	var all []string
	for _, l := range [][]api.Write{w, roster.Left(roll.Lasts{}, w), roster.Left(lasts("1/5"), w)} {
		for _, x := range l {
			all = append(all, x.Op.Key, x.Op.A.Text, x.Op.B.Text)
		}
	}
	for i, s := range all {
		if slices.ContainsFunc(all[i+1:], func(x string) bool { return shares(s, x) }) {
			t.Fatalf("text %d, %q, isn't new memory", i, s)
		}
	}
}

// R7: the greatest device and Seq, and the least.
func TestP10_R7_Limits(t *testing.T) {
	w := list("1/1 1/40 11/1 11/40")
	if roster.Of(roll.Lasts{}, w) != lasts("1/40 11/40") || !slices.Equal(roster.Left(lasts("1/39 11/39"), w), []api.Write{w[1], w[3]}) {
		t.Error("the least and the greatest ids")
	}
	for _, dev := range []int{1, 11} {
		for _, c := range []struct {
			known, seq int
			want       api.Errno
		}{{0, 1, api.OK}, {0, 2, api.ErrGap}, {0, 40, api.ErrGap}, {1, 1, api.ErrTwice}, {39, 40, api.OK}, {38, 40, api.ErrGap}, {40, 40, api.ErrTwice}, {40, 1, api.ErrTwice}} {
			var l roll.Lasts
			l[dev] = c.known
			if e := roster.Ask(l, api.Id{Dev: dev, Seq: c.seq}); e != c.want {
				t.Errorf("Ask of %d/%d, with %d known: %d, want %d", dev, c.seq, c.known, e, c.want)
			}
		}
	}
}

// R8: nothing is kept: whatever was asked between, an answer is what it was.
func TestP10_R8_TheSameAgain(t *testing.T) {
	type answers struct {
		of, join roll.Lasts
		left     string
		covers   bool
		next     int
		ask      api.Errno
	}
	ask := func(seed int64) answers {
		r := rand.New(rand.NewSource(seed))
		l, m, w := someLasts(r), someLasts(r), someWrites(r, 30)
		return answers{roster.Of(l, w), roster.Join(l, m), ids(roster.Left(l, w)), roster.Covers(l, m), roster.Next(l, 1+r.Intn(11)), roster.Ask(l, w[0].Id)}
	}
	var first []answers
	for seed := range int64(200) {
		first = append(first, ask(seed))
	}
	for seed := int64(199); seed >= 0; seed-- {
		if ask(seed) != first[seed] {
			t.Errorf("seed %d: another answer", seed)
		}
	}
}
