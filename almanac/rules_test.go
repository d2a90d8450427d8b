package almanac_test

import (
	"slices"
	"strconv"
	"strings"
	"testing"

	"spinney/almanac"
	"spinney/api"
	"spinney/arbor"
)

// All calls end, and none panics.
func TestP9_AnyArguments(t *testing.T) {
	a := made(t, "hub 0 *;device 1 *")
	for _, n := range []int{least, -1, 0, 1, 2, 3, 15, 16, 17, greatest} {
		for kind := -2; kind < 20; kind++ {
			x := arbor.Act{Kind: kind, A: n, B: n, C: n, Key: "\xff", Op: api.Op{Kind: n, Key: "\xff"}}
			almanac.Good(x)
			almanac.Print([]arbor.Act{x, {Kind: n}})
			almanac.Record(arbor.Record{Step: n, Node: kind, Err: api.Errno(n), Op: x.Op})
			if kind != arbor.Calm {
				almanac.Play(a, []arbor.Act{x})
			}
		}
		almanac.Node(a, n)
	}
	for _, s := range []string{"\xff", "write", "write \n", strings.Repeat("\n", 100), strings.Repeat(" ", 100), "spoil" + strings.Repeat(" 1", 1000) + "\n"} {
		almanac.Parse(s)
	}
}

// Long texts end soon, too.
func TestP9_LongTexts(t *testing.T) {
	s := strings.Repeat("tick 1\n", 1<<17)
	l, n, e := almanac.Parse(s)
	if e != api.OK || n != 0 || len(l) != 1<<17 {
		t.Errorf("Parse: %d, %d", n, e)
	}
	if p, _, e := almanac.Print(l); p != s || e != api.OK {
		t.Errorf("Print: %d", e)
	}
	if l, n, e := almanac.Parse(s + strings.Repeat("x", 1<<20)); l != nil || n != 1<<17 || e != api.ErrForm {
		t.Errorf("Parse: %d, %d", n, e)
	}
}

// R1.
func TestP10_R1_IntHas64Bits(t *testing.T) {
	if strconv.IntSize != 64 {
		t.Errorf("an int has %d bits", strconv.IntSize)
	}
}

// R2, R3: there is one error alone; beside it stands the place, and nothing else.
func TestP10_R3_BesideAnError(t *testing.T) {
	if s, n, e := almanac.Print([]arbor.Act{{Kind: arbor.Tick}, {}}); s != "" || n != 1 || e != api.ErrForm {
		t.Errorf("Print: %q, %d, %d", s, n, e)
	}
	if l, n, e := almanac.Parse("tick 1\ntick\n"); l != nil || n != 1 || e != api.ErrForm {
		t.Errorf("Parse: %v, %d, %d", l, n, e)
	}
}

// R5: a list that is nil means the same as one that is empty.
func TestP10_R5_EmptyAndNil(t *testing.T) {
	a := made(t, "device 0 *")
	for _, l := range [][]arbor.Act{nil, {}, make([]arbor.Act, 0, 9)} {
		if s, n, e := almanac.Print(l); s != "" || n != 0 || e != api.OK {
			t.Errorf("Print: %q", s)
		}
		if s := almanac.Play(a, l); strings.Count(s, "\n") != 2 {
			t.Errorf("Play: %q", s)
		}
	}
}

// P25.3, and R4, R6: what is handed in stays; answers are new memory.
func TestP25_3_Memory(t *testing.T) {
	var l []arbor.Act
	for _, p := range pairs() {
		l = append(l, p.x)
	}
	l = slices.Grow(l, 9)
	was := slices.Clone(l[:cap(l)])
	s, _, _ := almanac.Print(l)
	x, _, _ := almanac.Parse(s)
	y, _, _ := almanac.Parse(s)
	clear(x[:cap(x)])
	a := made(t, "hub 0 *;device 1 *")
	a.Do(arbor.Act{Kind: arbor.Write, A: 2, Op: op("put a 1")})
	for range 2 {
		almanac.Good(l[0])
		almanac.Record(a.History()[0])
		if almanac.Node(a, 2) != "2 up life 1 end 0 base 0 queue 1 tail 0 a=1" || a.Steps() != 1 || len(a.History()) != 1 {
			t.Error("the arbor has changed")
		}
	}
	play := l[:5:5]
	almanac.Play(a, play)
	if !slices.Equal(l[:cap(l)], was) || !slices.Equal(y, l) {
		t.Error("what was handed in has changed, or two answers share memory")
	}
}

// R8: the same again.
func TestP10_R8_TheSameAgain(t *testing.T) {
	a, b := made(t, "hub 0 *;device 1 *"), made(t, "hub 0 *;device 1 *")
	l, _, _ := almanac.Parse("write 2 put a 1\ncalm 5\nwrite 2 put b 1\ncrash 1 3\n")
	if almanac.Play(a, l) != almanac.Play(b, l) {
		t.Error("another answer")
	}
}
