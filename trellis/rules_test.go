package trellis_test

import (
	"slices"
	"strconv"
	"strings"
	"testing"

	"spinney/api"
	"spinney/trellis"
)

// All calls end, and none panics: of trees that aren't good, too.
func TestP9_AnyArguments(t *testing.T) {
	numbers := []int{least, -2, -1, 0, 1, 2, 3, 11, 12, 13, greatest}
	all := trees()
	for _, n := range numbers {
		for _, m := range numbers {
			all = append(all, trellis.Tree{{Kind: n, Parent: m}}, append(tree(), trellis.Spec{Kind: n, Parent: m, Reach: api.Reach{"b", "a", "\xff"}}), trellis.Tree{{Parent: 1}, {Kind: trellis.Hub, Parent: n}, {Kind: trellis.Device, Parent: m}})
		}
	}
	all = append(all, trellis.Tree{{Parent: 1}, {Parent: 0}, {Parent: 2}}, make(trellis.Tree, 100))
	for _, x := range all {
		trellis.Good(x)
		trellis.Text(x)
		for _, n := range numbers {
			trellis.Depth(x, n)
			trellis.Children(x, n)
			trellis.Under(x, n)
			trellis.Room(x, n)
			for _, m := range numbers {
				trellis.May(x, n, m)
			}
		}
	}
}

// Long texts end soon, too.
func TestP9_LongTexts(t *testing.T) {
	for _, s := range []string{strings.Repeat("hub 0 *\n", 1<<18), strings.Repeat("a", 1<<20), strings.Repeat(" ", 1<<20), "hub 0 " + strings.Repeat("a,", 1<<20) + "\n", strings.Repeat("\n", 1<<20)} {
		if x, e := trellis.Read(s); e != api.ErrForm || x != nil {
			t.Errorf("Read of %d bytes: %d", len(s), e)
		}
	}
}

// R1.
func TestP10_R1_IntHas64Bits(t *testing.T) {
	if strconv.IntSize != 64 {
		t.Errorf("an int has %d bits", strconv.IntSize)
	}
	if trellis.May(tree("d 0 *"), 1<<32+1, 0) != api.ErrRange || trellis.Depth(tree("d 0 *"), 1<<32) != -1 {
		t.Error("numbers beyond 32 bits")
	}
}

// R2: of errors that hold the first that the words name.
func TestP10_R2_TheFirstError(t *testing.T) {
	x := tree("h 0 a", "h 0 b", "d 1 a")
	for _, c := range []struct {
		n, to int
		want  api.Errno
	}{{1, 9, api.ErrRange}, {9, 3, api.ErrRange}, {1, 2, api.ErrTree}, {1, 3, api.ErrTree}, {3, 2, api.ErrReach}} {
		if e := trellis.May(x, c.n, c.to); e != c.want {
			t.Errorf("May(%d, %d): %d, want %d", c.n, c.to, e, c.want)
		}
	}
}

// R5: a list that is nil means the same as one that is empty.
func TestP10_R5_EmptyAndNil(t *testing.T) {
	for _, r := range []api.Reach{nil, {}, api.Reach{"a"}[:0]} {
		x := append(tree(), trellis.Spec{Kind: trellis.Hub, Reach: r}, trellis.Spec{Kind: trellis.Device, Parent: 1, Reach: r})
		if !trellis.Good(x) || trellis.Text(x) != "hub 0 !\ndevice 1 !\n" || trellis.May(x, 2, 1) != api.OK {
			t.Errorf("a reach of no prefix: %q", trellis.Text(x))
		}
	}
	if trellis.Good(trellis.Tree{}) || trellis.Good(nil) || trellis.Depth(nil, 0) != -1 {
		t.Error("no node")
	}
}

// P21.3, and R6: what is handed in stays, with its spare room; answers are new memory.
func TestP21_3_Memory(t *testing.T) {
	x := append(make(trellis.Tree, 0, 9), tree("h 0 a,b", "d 1 a.x", "d 1 b")...)
	x[1].Reach = append(make(api.Reach, 0, 9), "a", "b")
	ask := func() {
		trellis.Good(x)
		trellis.Depth(x, 2)
		trellis.May(x, 2, 1)
		trellis.Text(x)
		a, b := trellis.Children(x, 1), trellis.Under(x, 1)
		clear(a[:cap(a)])
		clear(b[:cap(b)])
	}
	for range 2 {
		c, u := trellis.Children(x, 1), trellis.Under(x, 1)
		ask()
		if !same(x, tree("h 0 a,b", "d 1 a.x", "d 1 b")) || !slices.Equal(x[1].Reach[:9], append(api.Reach{"a", "b"}, make(api.Reach, 7)...)) || !same(x[:9][4:], make(trellis.Tree, 5)) {
			t.Fatal("what was handed in has changed")
		}
		if !slices.Equal(c, []int{2, 3}) || !slices.Equal(u, []int{1, 2, 3}) {
			t.Fatal("two answers share memory")
		}
	}
	s := trellis.Text(x)
	a, _ := trellis.Read(s)
	b, _ := trellis.Read(s)
	for i := range a {
		clear(a[i].Reach[:cap(a[i].Reach)])
	}
	clear(a[:cap(a)])
	if !same(b, x) {
		t.Error("two trees that were read share memory")
	}
	if y, _ := trellis.Read(""); len(y) == 1 {
		y[0].Reach[0] = "z"
	}
	if y, e := trellis.Read(""); e != api.OK || !same(y, tree()) {
		t.Error("the root that was read has changed")
	}
}

// R8: the same again.
func TestP10_R8_TheSameAgain(t *testing.T) {
	for _, x := range trees() {
		s, u := trellis.Text(x), trellis.Under(x, 0)
		trellis.Text(tree("h 0 z"))
		trellis.Read("x")
		if trellis.Text(x) != s || !slices.Equal(trellis.Under(x, 0), u) || !trellis.Good(x) {
			t.Errorf("another answer of %q", s)
		}
	}
}
