package trellis_test

import (
	"math"
	"math/rand"
	"slices"
	"strconv"
	"strings"
	"testing"

	"spinney/api"
	"spinney/reach"
	"spinney/trellis"
)

const least, greatest = math.MinInt, math.MaxInt

// tree is a root, and behind it nodes of texts: h or d, the parent, the reach's text.
func tree(l ...string) trellis.Tree {
	t := trellis.Tree{{Kind: trellis.Root, Parent: -1, Reach: api.Reach{""}}}
	for _, s := range l {
		f := strings.Fields(s)
		parent, _ := strconv.Atoi(f[1])
		var r api.Reach
		if f[2] != "!" {
			r = strings.Split(strings.ReplaceAll(f[2], "*", ""), ",")
		}
		t = append(t, trellis.Spec{Kind: map[string]int{"h": trellis.Hub, "d": trellis.Device}[f[0]], Parent: parent, Reach: r})
	}
	return t
}

func same(a, b trellis.Tree) bool {
	return slices.EqualFunc(a, b, func(x, y trellis.Spec) bool {
		return x.Kind == y.Kind && x.Parent == y.Parent && slices.Equal(x.Reach, y.Reach)
	})
}

// trees are good ones.
func trees() []trellis.Tree {
	long := strings.Repeat("k", 20)
	return []trellis.Tree{
		tree(),
		tree("h 0 a,b", "d 1 a.x"),
		tree("d 0 *"),
		tree("h 0 *", "h 1 *", "h 2 *", "d 3 *"),
		tree("h 0 *", "h 1 *", "h 2 *", "h 3 *"),
		tree("h 0 a", "h 0 b", "d 1 a", "d 2 b", "d 0 *"),
		tree("h 0 !", "d 1 !", "d 0 a"),
		tree("h 0 a,b,c,d,e,f", "h 1 a.1,a.2,b,c,d,f", "d 2 a.1,a.2,b.1,b.2,c,d"),
		tree("h 0 "+long, "d 1 "+long, "h 0 a.-0"),
		tree("h 0 *", "d 0 *", "d 1 a", "d 1 b", "h 1 *", "d 5 c", "h 5 n", "d 7 n.1", "d 0 n", "h 7 n.1", "d 0 z"),
		tree("d 0 *", "d 0 *", "d 0 *", "d 0 *", "d 0 *", "d 0 *", "d 0 *", "d 0 *", "d 0 *", "d 0 *", "d 0 *"),
	}
}

func TestP21_1_Example(t *testing.T) {
	x, e := trellis.Read("hub 0 a,b\ndevice 1 a.x\n")
	if e != api.OK || !same(x, tree("h 0 a,b", "d 1 a.x")) {
		t.Fatalf("Read: %v, %d", x, e)
	}
	if l := trellis.Under(x, 1); !slices.Equal(l, []int{1, 2}) {
		t.Errorf("Under(1): %v", l)
	}
	if e := trellis.May(x, 2, 0); e != api.OK {
		t.Errorf("the device may move to 0: %d", e)
	}
	if e := trellis.May(x, 1, 0); e != api.ErrTree {
		t.Errorf("the hub may move to 0: %d", e)
	}
}

func TestP21_1_Good(t *testing.T) {
	for i, x := range trees() {
		if !trellis.Good(x) {
			t.Errorf("tree %d isn't good", i)
		}
	}
	for name, x := range map[string]trellis.Tree{
		"no node":                   nil,
		"an empty one":              {},
		"thirteen":                  tree(slices.Repeat([]string{"d 0 *"}, 12)...),
		"a root that is a hub":      {{Kind: trellis.Hub, Parent: -1, Reach: api.Reach{""}}},
		"a root that is a device":   {{Kind: trellis.Device, Parent: -1, Reach: api.Reach{""}}},
		"a root with a parent":      {{Parent: 0, Reach: api.Reach{""}}},
		"a root with another one":   {{Parent: -2, Reach: api.Reach{""}}},
		"a root for no key":         {{Parent: -1}},
		"a root for some keys":      {{Parent: -1, Reach: api.Reach{"a"}}},
		"a root for all, and a":     {{Parent: -1, Reach: api.Reach{"", "a"}}},
		"a root for all twice":      {{Parent: -1, Reach: api.Reach{"", ""}}},
		"its own parent":            tree("h 1 a"),
		"a greater parent":          tree("h 2 a", "h 0 a"),
		"a parent below 0":          tree("h -1 a"),
		"the least parent":          tree("h " + strconv.Itoa(least) + " a"),
		"the greatest parent":       tree("d 0 a", "d "+strconv.Itoa(greatest)+" a"),
		"a parent that is a device": tree("d 0 a", "d 1 a"),
		"a hub under a device":      tree("d 0 a", "h 1 a"),
		"a reach not covered":       tree("h 0 a", "d 1 b"),
		"a reach more than covered": tree("h 0 a.x", "d 1 a"),
		"a reach in part covered":   tree("h 0 a", "d 1 a,b"),
		"a reach that isn't good":   tree("h 0 b,a"),
		"a prefix of another one":   tree("h 0 a,a.x"),
		"seven prefixes":            tree("h 0 a,b,c,d,e,f,g"),
		"no key":                    tree("h 0 A"),
		"too long a prefix":         tree("h 0 " + strings.Repeat("k", 21)),
		"two roots":                 append(tree(), trellis.Spec{Kind: trellis.Root, Parent: -1, Reach: api.Reach{""}}),
		"a root under a root":       append(tree(), trellis.Spec{Kind: trellis.Root, Parent: 0, Reach: api.Reach{""}}),
		"no kind":                   append(tree(), trellis.Spec{Kind: 3}),
		"a kind below 0":            append(tree(), trellis.Spec{Kind: -1}),
		"a depth of 5":              tree("h 0 *", "h 1 *", "h 2 *", "h 3 *", "d 4 *"),
		"a depth of 5, at last":     tree("h 0 *", "d 0 *", "h 1 *", "h 3 *", "h 4 *", "h 5 *", "d 0 a"),
		"the last one isn't good":   tree("h 0 *", "d 1 *", "d 2 *"),
	} {
		if trellis.Good(x) {
			t.Errorf("%s: good", name)
		}
	}
}

func TestP21_1_DepthChildrenUnderRoom(t *testing.T) {
	x := tree("h 0 *", "d 0 *", "d 1 a", "d 1 b", "h 1 *", "d 5 c", "h 5 n", "d 7 n.1", "d 0 n", "h 7 n.1", "d 0 z")
	depths := []int{0, 1, 1, 2, 2, 2, 3, 3, 4, 1, 4, 1}
	children := map[int][]int{0: {1, 2, 9, 11}, 1: {3, 4, 5}, 5: {6, 7}, 7: {8, 10}}
	under := map[int][]int{0: {0, 1, 2, 3, 4, 5, 6, 7, 8, 9, 10, 11}, 1: {1, 3, 4, 5, 6, 7, 8, 10}, 5: {5, 6, 7, 8, 10}, 7: {7, 8, 10}}
	for n := range x {
		if _, has := under[n]; !has {
			under[n] = []int{n}
		}
		room := 40
		if x[n].Kind == trellis.Device {
			room = 8
		}
		if d, c, u, r := trellis.Depth(x, n), trellis.Children(x, n), trellis.Under(x, n), trellis.Room(x, n); d != depths[n] || !slices.Equal(c, children[n]) || !slices.Equal(u, under[n]) || r != room {
			t.Errorf("node %d: depth %d, children %v, under %v, room %d", n, d, c, u, r)
		}
	}
	for _, x := range trees() {
		for _, n := range []int{len(x), len(x) + 1, 12, 13, -1, -2, least, greatest} {
			if d, c, u, r := trellis.Depth(x, n), trellis.Children(x, n), trellis.Under(x, n), trellis.Room(x, n); d != -1 || len(c) != 0 || len(u) != 0 || r != 0 {
				t.Errorf("node %d of %d: depth %d, children %v, under %v, room %d", n, len(x), d, c, u, r)
			}
		}
	}
}

func TestP21_1_May(t *testing.T) {
	x := tree("h 0 a,b", "d 1 a.x", "h 0 b", "d 3 b.1", "d 0 *", "d 1 !", "h 0 a.x.1")
	for _, c := range []struct {
		n, to int
		want  api.Errno
	}{
		{2, 0, api.OK}, {2, 1, api.OK}, {4, 1, api.OK}, {4, 3, api.OK}, {4, 0, api.OK}, {5, 0, api.OK}, {6, 0, api.OK}, {6, 1, api.OK}, {6, 3, api.OK}, {6, 7, api.OK},
		{2, 3, api.ErrReach}, {4, 7, api.ErrReach}, {5, 1, api.ErrReach}, {5, 3, api.ErrReach}, {2, 7, api.ErrReach},
		{0, 1, api.ErrTree}, {1, 0, api.ErrTree}, {3, 1, api.ErrTree}, {0, 0, api.ErrTree}, {1, 1, api.ErrTree}, {2, 2, api.ErrTree}, {2, 4, api.ErrTree}, {2, 5, api.ErrTree}, {1, 2, api.ErrTree}, {5, 4, api.ErrTree}, {3, 7, api.ErrTree},
		{8, 0, api.ErrRange}, {-1, 0, api.ErrRange}, {2, 8, api.ErrRange}, {2, -1, api.ErrRange}, {8, 8, api.ErrRange}, {least, greatest, api.ErrRange}, {1, 8, api.ErrRange}, {8, 2, api.ErrRange}, {0, -1, api.ErrRange},
	} {
		if e := trellis.May(x, c.n, c.to); e != c.want {
			t.Errorf("May(%d, %d): %d, want %d", c.n, c.to, e, c.want)
		}
	}
}

func TestP21_1_Text(t *testing.T) {
	for _, c := range []struct {
		x    trellis.Tree
		want string
	}{
		{tree(), ""}, {tree("h 0 *"), "hub 0 *\n"}, {tree("h 0 a,b", "d 1 a.x"), "hub 0 a,b\ndevice 1 a.x\n"}, {tree("h 0 !", "d 0 *", "d 1 !"), "hub 0 !\ndevice 0 *\ndevice 1 !\n"},
		{tree("h 0 *", "h 0 *", "h 0 *", "h 0 *", "h 0 *", "h 0 *", "h 0 *", "h 0 *", "h 0 *", "h 0 *", "d 10 n.1,z-"), strings.Repeat("hub 0 *\n", 10) + "device 10 n.1,z-\n"},
	} {
		if s := trellis.Text(c.x); s != c.want {
			t.Errorf("Text: %q, want %q", s, c.want)
		}
		if x, e := trellis.Read(c.want); e != api.OK || !same(x, c.x) {
			t.Errorf("Read of %q: %v, %d", c.want, x, e)
		}
	}
	for _, x := range trees() {
		if y, e := trellis.Read(trellis.Text(x)); e != api.OK || !same(x, y) {
			t.Errorf("Read of %q: %v, %d", trellis.Text(x), y, e)
		}
	}
}

func TestP21_1_ReadOfWhatIsNone(t *testing.T) {
	for _, s := range []string{
		"\n", " ", "hub 0 *", "hub 0 *\n\n", "\nhub 0 *\n", "hub 0 *\r\n", "hub 0 *\n ", "hub 0 * \n", " hub 0 *\n", "hub  0 *\n", "hub 0  *\n", "hub\t0 *\n", "hub 0\n", "hub 0 \n", "hub *\n", "hub 0 * *\n", "hub\n", "0 *\n",
		"Hub 0 *\n", "root -1 *\n", "root 0 *\n", " 0 *\n", "hubs 0 *\n", "dev 0 *\n", "device 0 *", "devices 0 *\n", "1 0 *\n",
		"hub 00 *\n", "hub +0 *\n", "hub -0 *\n", "hub 0x0 *\n", "hub a *\n", "hub  *\n", "hub 1 *\n", "hub -1 *\n", "hub 0 *\nhub 01 *\n", "hub 0 *\nhub +1 *\n", "hub 99999999999999999999 *\n", "hub 0_0 *\n",
		"hub 0 \n", "hub 0 ,\n", "hub 0 a,\n", "hub 0 b,a\n", "hub 0 *,a\n", "hub 0 A\n", "hub 0 a,a\n", "hub 0 **\n", "hub 0 !!\n", "hub 0 a!\n", "hub 0 a,b,c,d,e,f,g\n", "hub 0 " + strings.Repeat("k", 21) + "\n",
		"device 0 *\ndevice 1 *\n", "hub 0 a\ndevice 1 b\n", "hub 0 a\ndevice 1 *\n", strings.Repeat("hub 0 *\n", 12), "hub 0 *\nhub 1 *\nhub 2 *\nhub 3 *\nhub 4 *\n", "hub 2 *\nhub 0 *\n", "hub 0 *\x00\n", "hub 0 \xff\n",
	} {
		if x, e := trellis.Read(s); e != api.ErrForm || x != nil {
			t.Errorf("Read of %q: %v, %d", s, x, e)
		}
	}
}

// Each text that is read has that text.
func FuzzRead(f *testing.F) {
	for _, x := range trees() {
		f.Add(trellis.Text(x))
	}
	f.Add("hub 00 *\n")
	f.Fuzz(func(t *testing.T, s string) {
		x, e := trellis.Read(s)
		if e == api.OK && (trellis.Text(x) != s || !trellis.Good(x)) || e != api.OK && (e != api.ErrForm || x != nil) {
			t.Errorf("Read of %q: %v, %d", s, x, e)
		}
	})
}

// some is a good tree by chance.
func some(r *rand.Rand) trellis.Tree {
	x := tree()
	for range r.Intn(12) {
		n := trellis.Spec{Kind: 1 + r.Intn(2), Parent: r.Intn(len(x))}
		p := x[n.Parent]
		if p.Kind == trellis.Device || trellis.Depth(x, n.Parent) == 4 {
			continue
		}
		for _, s := range p.Reach {
			if r.Intn(4) > 0 && len(s) < 8 {
				s += string("ab"[r.Intn(2)])
			}
			if r.Intn(5) > 0 {
				n.Reach = append(n.Reach, s)
			}
			if r.Intn(3) == 0 && len(s) > 0 && len(n.Reach) > 0 && n.Reach[len(n.Reach)-1] == s && len(n.Reach) < 5 {
				n.Reach[len(n.Reach)-1] += "."
				n.Reach = append(n.Reach, s+"x")
			}
		}
		x = append(x, n)
	}
	return x
}

// P21.2: each node is under its parent, and under the root; what it may move to covers it.
func TestP21_2_GoodTrees(t *testing.T) {
	r := rand.New(rand.NewSource(21))
	all := trees()
	for range 500 {
		x := some(r)
		if !trellis.Good(x) {
			t.Fatalf("not good: %q", trellis.Text(x))
		}
		all = append(all, x)
	}
	for _, x := range all {
		for n := range x {
			if !slices.Contains(trellis.Under(x, 0), n) || !slices.Contains(trellis.Under(x, n), n) || trellis.Depth(x, n) > 4 {
				t.Fatalf("node %d of %q", n, trellis.Text(x))
			}
			if n == 0 {
				continue
			}
			p := x[n].Parent
			if !slices.Contains(trellis.Under(x, p), n) || !slices.Contains(trellis.Children(x, p), n) || trellis.Depth(x, n) != trellis.Depth(x, p)+1 || len(trellis.Under(x, n)) >= len(trellis.Under(x, p)) {
				t.Fatalf("node %d of %q", n, trellis.Text(x))
			}
			if (trellis.May(x, n, p) == api.OK) != (x[n].Kind == trellis.Device) {
				t.Fatalf("node %d of %q to its parent", n, trellis.Text(x))
			}
			for to := range x {
				if trellis.May(x, n, to) == api.OK && (!reach.Covers(x[to].Reach, x[n].Reach) || x[to].Kind == trellis.Device || x[n].Kind != trellis.Device) {
					t.Fatalf("node %d of %q to %d", n, trellis.Text(x), to)
				}
			}
		}
	}
}
