package weather_test

import (
	"math"
	"slices"
	"strconv"
	"strings"
	"testing"

	"spinney/api"
	"spinney/trellis"
	"spinney/weather"
)

// All calls end, and none panics.
func TestP9_AnyArguments(t *testing.T) {
	ints := []int{least, least + 1, -1000, -1, 0, 1, 2, 16, 1000, 1001, 1 << 32, greatest - 1, greatest}
	for _, n := range ints {
		for _, m := range ints {
			s := weather.New(uint64(n))
			s.Below(m)
			s.By([]int{n, m})
			s.By([]int{m, n, m, 5})
			c := weather.Climate{n, m, m, 1}
			weather.Good(c)
			weather.Script(tree("device 0 a"), c, uint64(n), m)
			weather.Script(trellis.Tree{{Kind: n, Parent: m}}, every(), 0, n)
		}
	}
}

// R1.
func TestP10_R1_IntHas64Bits(t *testing.T) {
	if strconv.IntSize != 64 {
		t.Errorf("an int has %d bits", strconv.IntSize)
	}
	above := false
	s := weather.New(1)
	for range 100 {
		above = above || s.Below(1<<62) > math.MaxInt32
	}
	if !above {
		t.Error("numbers of 32 bits alone")
	}
}

// R2, R3: of errors that hold the first; beside it stands nothing.
func TestP10_R2_TheFirstError(t *testing.T) {
	if l, e := weather.Script(nil, weather.Climate{}, 0, -1); l != nil || e != api.ErrForm {
		t.Errorf("Script: %d", e)
	}
	if l, e := weather.Script(tree(""), weather.Climate{}, 0, 1001); l != nil || e != api.ErrRange {
		t.Errorf("Script: %d", e)
	}
}

// R5: a list that is nil means the same as one that is empty.
func TestP10_R5_EmptyAndNil(t *testing.T) {
	for _, r := range []api.Reach{nil, {}} {
		x := append(tree(""), trellis.Spec{Kind: trellis.Device, Reach: r})
		l, e := weather.Script(x, weather.Climate{1: 1}, 7, 20)
		if e != api.OK || !slices.Equal(l, script(x, weather.Climate{1: 1}, 7, 20)) || len(l[0].Op.Key) != 1 {
			t.Errorf("Script: %d, %v", e, l)
		}
	}
}

// P29.3, and R4, R6: what is handed in stays, and isn't kept; answers are new memory.
func TestP29_3_Memory(t *testing.T) {
	x := tree("hub 0 *;device 1 a,b")
	x[2].Reach = append(make(api.Reach, 0, 9), x[2].Reach...)
	a, _ := weather.Script(x, every(), 3, 200)
	b, _ := weather.Script(x, every(), 3, 200)
	if trellis.Text(x) != "hub 0 *\ndevice 1 a,b\n" || !slices.Equal(x[2].Reach[:9][2:], make(api.Reach, 7)) {
		t.Error("the tree has changed")
	}
	want := script(tree("hub 0 *;device 1 a,b"), every(), 3, 200)
	for i := range x {
		x[i].Kind = 9
		clear(x[i].Reach)
	}
	clear(a[:cap(a)])
	if !slices.Equal(b, want) {
		t.Error("an answer has changed with the tree, or with another one")
	}
	weights := append(make([]int, 0, 9), 1, 2, 3)
	s := weather.New(1)
	for range 20 {
		s.By(weights)
	}
	if !slices.Equal(weights[:9], []int{1, 2, 3, 0, 0, 0, 0, 0, 0}) {
		t.Error("weights have changed")
	}
	long := tree("device 0 " + strings.Repeat("k", 20))
	l, _ := weather.Script(long, weather.Climate{1: 1}, 0, 1)
	if l[0].Op.Key != strings.Repeat("k", 20) {
		t.Errorf("a key of %q", l[0].Op.Key)
	}
}

// R8: another sky is nothing to this one; the same seed, the same numbers.
func TestP10_R8_TheSameAgain(t *testing.T) {
	a, b := weather.New(9), weather.New(9)
	for range 50 {
		a.Next()
	}
	if b.Next() != numbers(9, 1)[0] || a.Next() != numbers(9, 51)[50] {
		t.Error("other numbers")
	}
	for range 3 {
		l, _ := weather.Script(trees()[3], every(), 9, 100)
		if !slices.Equal(l, script(trees()[3], every(), 9, 100)) {
			t.Error("another script")
		}
	}
}
