package weather_test

import (
	"fmt"
	"math"
	"slices"
	"strings"
	"testing"

	"spinney/almanac"
	"spinney/api"
	"spinney/arbor"
	"spinney/deed"
	"spinney/reach"
	"spinney/trellis"
	"spinney/weather"
)

const least, greatest = math.MinInt, math.MaxInt

func tree(s string) trellis.Tree {
	if s != "" {
		s = strings.ReplaceAll(s, ";", "\n") + "\n"
	}
	t, e := trellis.Read(s)
	if e != api.OK {
		panic("no tree: " + s)
	}
	return t
}

func trees() []trellis.Tree {
	long := strings.Repeat("k", 20)
	return []trellis.Tree{
		tree(""), tree("hub 0 *;hub 1 a"), tree("hub 0 *;device 1 *"), tree("hub 0 a,b;hub 1 a;device 2 a.x;device 1 a.1,b;device 0 !"), tree("device 0 " + long + "," + long[:19] + "l;device 0 " + long[:19]), tree("hub 0 !;device 1 !"),
	}
}

// every is a climate in which each act comes.
func every() weather.Climate {
	c := weather.Climate{}
	for kind := 1; kind <= 12; kind++ {
		if kind != arbor.Arm {
			c[kind] = 1 + kind*7%5
		}
	}
	return c
}

// numbers are the first ones of a seed, by the chapter's words, in numbers without bounds.
func numbers(seed uint64, n int) []uint64 {
	var l []uint64
	state := seed
	for range n {
		state += 0x9E3779B97F4A7C15
		z := state
		z = (z ^ z/(1<<30)) * 0xBF58476D1CE4E5B9
		z = (z ^ z/(1<<27)) * 0x94D049BB133111EB
		l = append(l, z^z/(1<<31))
	}
	return l
}

func TestP29_1_Example(t *testing.T) {
	if n := weather.New(0).Next(); n != 0xE220A8397B1DCDAF {
		t.Errorf("Next: %x", n)
	}
}

// The first numbers of some seeds, as they are told elsewhere, too.
func TestP29_1_Next(t *testing.T) {
	known := map[uint64][]uint64{
		0:       {0xE220A8397B1DCDAF, 0x6E789E6AA1B965F4, 0x06C45D188009454F, 0xF88BB8A8724C81EC, 0x1B39896A51A8749B},
		1234567: {6457827717110365317, 3203168211198807973, 9817491932198370423, 4593380528125082431, 16408922859458223821},
	}
	for seed, want := range known {
		s := weather.New(seed)
		for i, w := range want {
			if n := s.Next(); n != w {
				t.Errorf("number %d of the seed %d: %x, want %x", i, seed, n, w)
			}
		}
	}
	for _, seed := range []uint64{0, 1, 2, 77, 1 << 63, math.MaxUint64, math.MaxUint64 - 1} {
		s := weather.New(seed)
		for i, w := range numbers(seed, 200) {
			if n := s.Next(); n != w {
				t.Fatalf("number %d of the seed %d: %x, want %x", i, seed, n, w)
			}
		}
	}
}

func TestP29_1_Below(t *testing.T) {
	for _, n := range []int{1, 2, 3, 10, 16, 512, 1 << 30, 1 << 62, greatest} {
		s := weather.New(29)
		for i, w := range numbers(29, 100) {
			if got := s.Below(n); got != int(w%uint64(n)) {
				t.Errorf("number %d below %d: %d", i, n, got)
			}
		}
	}
	s := weather.New(29)
	for _, n := range []int{0, -1, least} { // no number is taken
		if got := s.Below(n); got != 0 {
			t.Errorf("below %d: %d", n, got)
		}
	}
	if n := s.Next(); n != numbers(29, 1)[0] {
		t.Error("a number was taken")
	}
	s.Below(1) // of 1 one is
	if n := s.Next(); n != numbers(29, 3)[2] {
		t.Error("no number was taken")
	}
}

func TestP29_1_By(t *testing.T) {
	thousand := make([]int, 1000)
	for i := range thousand {
		thousand[i] = (i * 37) % 1001
	}
	for _, weights := range [][]int{{1}, {5}, {0, 1}, {1, 0}, {0, 0, 3, 0}, {1, 2, 3}, {1000, 0, 1000, 1}, {0, 7, 0, 7}, thousand, slices.Repeat([]int{1000}, 1000)} {
		sum := 0
		for _, w := range weights {
			sum += w
		}
		s := weather.New(5)
		for i, n := range numbers(5, 300) {
			k, want := int(n%uint64(sum)), 0
			for ahead := weights[0]; ahead <= k; ahead += weights[want] {
				want++
			}
			if got := s.By(weights); got != want || weights[got] == 0 {
				t.Fatalf("number %d by %v: %d, want %d", i, weights[:min(9, len(weights))], got, want)
			}
		}
	}
	s := weather.New(5)
	for _, weights := range [][]int{nil, {}, {0}, {0, 0, 0}, make([]int, 1000)} { // no number is taken
		if got := s.By(weights); got != -1 {
			t.Errorf("by %v: %d", weights, got)
		}
	}
	if n := s.Next(); n != numbers(5, 1)[0] {
		t.Error("a number was taken")
	}
}

func TestP29_1_Good(t *testing.T) {
	if !weather.Good(every()) {
		t.Error("every act's isn't good")
	}
	if weather.Good(weather.Climate{}) {
		t.Error("one without weights is good")
	}
	for kind := range 16 {
		may := kind != 0 && kind != arbor.Arm && kind != arbor.Spoil && kind != arbor.Watch && kind != arbor.Calm
		for w, in := range map[int]bool{1: true, 1000: true, 1001: false, -1: false, least: false, greatest: false} {
			var alone weather.Climate
			alone[kind] = w
			beside := every()
			beside[kind] = w
			if weather.Good(alone) != (may && in) || weather.Good(beside) != (may && in) {
				t.Errorf("a weight of %d for kind %d", w, kind)
			}
		}
	}
}

// script is one by hand, by the chapter's table.
func script(x trellis.Tree, c weather.Climate, seed uint64, n int) []arbor.Act {
	s := weather.New(seed)
	var devices []int
	for i := range x {
		if x[i].Kind == trellis.Device {
			devices = append(devices, i)
		}
	}
	device := func() int {
		if len(devices) > 0 {
			return devices[s.Below(len(devices))]
		}
		return 0
	}
	value := func() api.Value { return api.Value{Kind: api.Int, Num: s.Below(10)} }
	var l []arbor.Act
	for range n {
		y := arbor.Act{Kind: s.By(c[:])}
		switch y.Kind {
		case 1:
			y.A = device()
			y.Op.Kind = 1 + s.Below(4)
			if r := x[y.A].Reach; len(r) > 0 {
				y.Op.Key = r[s.Below(len(r))]
			}
			if len(y.Op.Key) < 20 {
				y.Op.Key += string("abcd"[s.Below(4)])
			}
			if y.Op.Kind != api.Del {
				y.Op.A = value()
			}
			if y.Op.Kind == api.Cas {
				y.Op.B = value()
			}
		case 2, 3, 4, 5:
			y.A = s.Below(16)
			if y.Kind == 5 {
				y.B = s.Below(512)
			}
		case 9:
			y.A = device()
			y.B = s.Below(len(x))
		default:
			y.A = s.Below(len(x))
			if y.Kind == 7 {
				y.B = s.Below(1 << 30)
			}
		}
		l = append(l, y)
	}
	return l
}

func TestP29_1_Script(t *testing.T) {
	for i, x := range trees() {
		for seed := range uint64(12) {
			for _, n := range []int{0, 1, 2, 50, 1000} {
				c := every()
				if seed%3 == 1 {
					c = weather.Climate{1: 1000}
				}
				got, e := weather.Script(x, c, seed-6, n)
				if e != api.OK || !slices.Equal(got, script(x, c, seed-6, n)) {
					t.Fatalf("tree %d, seed %d, length %d: %d, %+v", i, seed, n, e, got[:min(n, 5)])
				}
			}
		}
	}
}

func TestP29_1_ScriptThatCanNotBe(t *testing.T) {
	bad := tree("hub 0 *")
	bad[1].Parent = 1
	none := weather.Climate{}
	for _, c := range []struct {
		name string
		x    trellis.Tree
		c    weather.Climate
		n    int
		want api.Errno
	}{
		{"no tree", nil, every(), 5, api.ErrForm}, {"a tree that isn't good", bad, every(), 5, api.ErrForm}, {"all of it", bad, none, -1, api.ErrForm}, {"no weights", tree(""), none, 5, api.ErrRange}, {"an Arm", tree(""), weather.Climate{1: 1, 11: 1}, 5, api.ErrRange}, {"a Calm", tree(""), weather.Climate{1: 1, 15: 1}, 5, api.ErrRange}, {"no act", tree(""), weather.Climate{0: 1, 1: 1}, 5, api.ErrRange}, {"below 0", tree(""), weather.Climate{1: 5, 2: -1}, 5, api.ErrRange}, {"too great", tree(""), weather.Climate{1: 1001}, 5, api.ErrRange},
		{"a length below 0", tree(""), every(), -1, api.ErrRange}, {"too long", tree(""), every(), 1001, api.ErrRange}, {"the least length", tree(""), every(), least, api.ErrRange}, {"the greatest length", tree(""), every(), greatest, api.ErrRange}, {"no weights, no length", tree(""), none, 0, api.ErrRange},
	} {
		if l, e := weather.Script(c.x, c.c, 1, c.n); e != c.want || l != nil {
			t.Errorf("%s: %d, want %d", c.name, e, c.want)
		}
	}
}

// P29.2: a longer script begins with the shorter one; no act of weight 0 comes; each act is good, and its parts are in their bounds.
func TestP29_2_Scripts(t *testing.T) {
	had := map[int]int{}
	for i, x := range trees() {
		for seed := range uint64(10) {
			c := every()
			c[1+seed%10] = 0
			long, _ := weather.Script(x, c, seed, 1000)
			for _, n := range []int{0, 1, 7, 500, 999} {
				short, e := weather.Script(x, c, seed, n)
				if e != api.OK || !slices.Equal(short, long[:n]) {
					t.Fatalf("tree %d, seed %d: a longer one begins not with that of %d", i, seed, n)
				}
			}
			for _, y := range long {
				had[y.Kind]++
				if c[y.Kind] == 0 || !almanac.Good(y) {
					t.Fatalf("tree %d, seed %d: %+v comes", i, seed, y)
				}
				if y.Kind == arbor.Write && (!deed.Good(y.Op) || len(x[y.A].Reach) > 0 && !reach.Has(x[y.A].Reach, y.Op.Key)) {
					t.Fatalf("tree %d, seed %d: %+v", i, seed, y)
				}
			}
			if _, _, e := almanac.Print(long); e != api.OK {
				t.Fatalf("Print: %d", e)
			}
		}
	}
	if len(had) != 11 {
		t.Errorf("kinds: %v", had)
	}
}

// What comes is about as often as its weight asks for.
func TestP29_2_AsOftenAsItsWeight(t *testing.T) {
	c := weather.Climate{arbor.Write: 1, arbor.Deliver: 3, arbor.Tick: 6}
	had := map[int]int{}
	for seed := range uint64(10) {
		l, _ := weather.Script(trees()[2], c, seed, 1000)
		for _, y := range l {
			had[y.Kind]++
		}
	}
	if fmt.Sprint(len(had)) != "3" || had[arbor.Write] < 800 || had[arbor.Write] > 1200 || had[arbor.Deliver] < 2700 || had[arbor.Deliver] > 3300 {
		t.Errorf("kinds: %v", had)
	}
}
