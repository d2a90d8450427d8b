package almanac_test

import (
	"math"
	"math/rand"
	"slices"
	"strconv"
	"strings"
	"testing"

	"spinney/almanac"
	"spinney/api"
	"spinney/arbor"
	"spinney/deed"
	"spinney/trellis"
)

const least, greatest = math.MinInt, math.MaxInt

func num(n int) api.Value { return api.Value{Kind: api.Int, Num: n} }

func op(s string) api.Op {
	o, e := deed.Read(s)
	if e != api.OK {
		panic("no operation: " + s)
	}
	return o
}

func tree(s string) trellis.Tree {
	t, e := trellis.Read(strings.ReplaceAll(s, ";", "\n") + "\n")
	if e != api.OK {
		panic("no tree: " + s)
	}
	return t
}

func made(t *testing.T, s string) *arbor.Arbor {
	t.Helper()
	a, e := arbor.New(tree(s), 3)
	if e != api.OK {
		t.Fatalf("New: %d", e)
	}
	return a
}

// words are those of the kinds, and how many numbers stand behind each.
var words = map[int]string{arbor.Write: "write", arbor.Deliver: "deliver", arbor.Lose: "lose", arbor.Double: "double", arbor.Turn: "turn", arbor.Tick: "tick", arbor.Crash: "crash", arbor.Start: "start", arbor.Move: "move", arbor.Cut: "cut", arbor.Arm: "arm", arbor.Fail: "fail", arbor.Spoil: "spoil", arbor.Watch: "watch", arbor.Calm: "calm"}

func count(kind int) int {
	switch kind {
	case arbor.Spoil:
		return 3
	case arbor.Turn, arbor.Crash, arbor.Move, arbor.Arm:
		return 2
	}
	return 1
}

var ops = []string{"put a 1", "put " + strings.Repeat("k", 20) + " \"a%20b\"", "del n.1", "add - -5", "cas a nil nil", "cas a 1 \"\"", "put 0 9223372036854775807"}

// pair is an act, and its line.
type pair struct {
	x arbor.Act
	s string
}

// pairs are of each kind, with numbers of each size.
func pairs() []pair {
	var l []pair
	numbers := []int{0, 1, -1, 12, 1000, least, greatest}
	for kind, word := range words {
		for i, n := range numbers {
			x := arbor.Act{Kind: kind, A: n}
			s := word + " " + strconv.Itoa(n)
			if count(kind) > 1 {
				x.B = numbers[(i+3)%7]
				s += " " + strconv.Itoa(x.B)
			}
			if count(kind) > 2 {
				x.C = numbers[(i+5)%7]
				s += " " + strconv.Itoa(x.C)
			}
			switch kind {
			case arbor.Write:
				x.Op = op(ops[i])
				s += " " + ops[i]
			case arbor.Watch:
				x.Key = []string{"a", strings.Repeat("k", 20), "n.1", "-", "0", ".", "z9"}[i]
				s += " " + x.Key
			}
			l = append(l, pair{x, s})
		}
	}
	slices.SortFunc(l, func(a, b pair) int { return strings.Compare(a.s, b.s) })
	return l
}

func TestP25_1_Example(t *testing.T) {
	a := made(t, "hub 0 *;hub 1 *;device 2 *")
	l, n, e := almanac.Parse("write 3 put a 1\n")
	if e != api.OK || n != 0 || !slices.Equal(l, []arbor.Act{{Kind: arbor.Write, A: 3, Op: op("put a 1")}}) {
		t.Fatalf("Parse: %v, %d, %d", l, n, e)
	}
	if e := a.Do(l[0]); e != api.OK {
		t.Fatalf("Do: %d", e)
	}
	a.Do(arbor.Act{Kind: arbor.Write, A: 1, Op: op("put a 1")})
	for i, want := range []string{"1 3 3/1 put a 1", "2 1 error 17 put a 1"} {
		if s := almanac.Record(a.History()[i]); s != want {
			t.Errorf("Record: %q, want %q", s, want)
		}
	}
	if s := almanac.Node(a, 3); s != "3 up life 1 end 0 base 0 queue 1 tail 0 a=1" {
		t.Errorf("Node: %q", s)
	}
}

// Each kind, with each number: there and back (P25.2, too).
func TestP25_1_PrintAndParse(t *testing.T) {
	var all []arbor.Act
	text := ""
	for _, p := range pairs() {
		if !almanac.Good(p.x) {
			t.Errorf("%+v isn't good", p.x)
		}
		if s, n, e := almanac.Print([]arbor.Act{p.x}); s != p.s+"\n" || n != 0 || e != api.OK {
			t.Errorf("Print of %+v: %q, %d, %d", p.x, s, n, e)
		}
		if l, n, e := almanac.Parse(p.s + "\n"); len(l) != 1 || l[0] != p.x || n != 0 || e != api.OK {
			t.Errorf("Parse of %q: %+v, %d, %d", p.s, l, n, e)
		}
		all = append(all, p.x)
		text += p.s + "\n"
	}
	if s, n, e := almanac.Print(all); s != text || n != 0 || e != api.OK {
		t.Errorf("Print of all: %d, %d", n, e)
	}
	if l, n, e := almanac.Parse(text); !slices.Equal(l, all) || n != 0 || e != api.OK {
		t.Errorf("Parse of all: %d, %d", n, e)
	}
	if s, n, e := almanac.Print(nil); s != "" || n != 0 || e != api.OK {
		t.Errorf("Print of none: %q, %d, %d", s, n, e)
	}
	if l, n, e := almanac.Parse(""); len(l) != 0 || n != 0 || e != api.OK {
		t.Errorf("Parse of none: %v, %d, %d", l, n, e)
	}
}

// What isn't good: a Kind that there isn't, each field that a line doesn't tell, operations and keys that aren't good.
func TestP25_1_NotGood(t *testing.T) {
	bad := []arbor.Act{{}, {Kind: 16}, {Kind: -1}, {Kind: least}, {Kind: greatest}, {Kind: 16, A: 1}, {Kind: arbor.Write}, {Kind: arbor.Write, Op: api.Op{Kind: api.Put, Key: "a"}}, {Kind: arbor.Write, Op: api.Op{Kind: api.Del, Key: "A"}}, {Kind: arbor.Write, Op: api.Op{Kind: 9, Key: "a"}}, {Kind: arbor.Watch}, {Kind: arbor.Watch, Key: "A"}, {Kind: arbor.Watch, Key: "a b"}, {Kind: arbor.Watch, Key: strings.Repeat("k", 21)}}
	for _, p := range pairs() {
		for i, set := range []func(x *arbor.Act){func(x *arbor.Act) { x.B = 7 }, func(x *arbor.Act) { x.C = -7 }, func(x *arbor.Act) { x.Key = "a" }, func(x *arbor.Act) { x.Op.Kind = 1 }, func(x *arbor.Act) { x.Op = op("del a") }, func(x *arbor.Act) { x.Op.B.Text = "x" }} {
			kind := p.x.Kind
			if i == 0 && count(kind) > 1 || i == 1 && count(kind) > 2 || i == 2 && kind == arbor.Watch || i > 2 && kind == arbor.Write {
				continue
			}
			x := p.x
			set(&x)
			bad = append(bad, x)
		}
	}
	good := arbor.Act{Kind: arbor.Tick, A: 1}
	for _, x := range bad {
		if almanac.Good(x) {
			t.Errorf("%+v is good", x)
		}
		for ahead := range 3 {
			l := append(slices.Repeat([]arbor.Act{good}, ahead), x, good, arbor.Act{})
			if s, n, e := almanac.Print(l); s != "" || n != ahead || e != api.ErrForm {
				t.Errorf("Print of %+v behind %d: %q, %d, %d", x, ahead, s, n, e)
			}
		}
	}
}

func TestP25_1_NoLine(t *testing.T) {
	var bad []string
	for _, p := range pairs() {
		bad = append(bad, p.s+" ", " "+p.s, strings.Replace(p.s, " ", "  ", 1), strings.Replace(p.s, " ", "\t", 1), p.s+"\r", p.s+" 1", p.s+" x", strings.ToUpper(p.s[:1])+p.s[1:], "x"+p.s, p.s[1:], p.s[:strings.LastIndex(p.s, " ")], p.s[:strings.LastIndex(p.s, " ")+1], strings.Replace(p.s, " ", " 0", 1), strings.Replace(p.s, " ", " +", 1), strings.Replace(p.s, " ", " --", 1), strings.Replace(p.s, " ", " x", 1), strings.Replace(p.s, " ", " 9223372036854775808", 1))
	}
	bad = append(bad, "", " ", "x", "tick", "tick ", "tick nil", "tick \"1\"", "tick 1.0", "tick 01", "tick -0", "tick +1", "tick 9223372036854775808", "tick -9223372036854775809", "tick 1 2", "turn 1", "turn 1 2 3", "spoil 1 2", "spoil 1 2 3 4", "write 1", "write 1 ", "write put a 1", "write 1 put a", "write 1 put a nil", "write 1 del a 1", "write 1 del A", "watch 1", "watch 1 ", "watch 1 A", "watch 1 a b", "watch a", "watch 1 "+strings.Repeat("k", 21), "none 1", "0", "1", "tick\x001")
	for _, s := range bad {
		if ok := slices.ContainsFunc(pairs(), func(p pair) bool { return p.s == s }); ok || strings.HasPrefix(s, "write") && strings.Contains(s, " put a 11") {
			continue
		}
		// By luck some changes make another good line; of these the print is the text.
		if l, _, e := almanac.Parse(s + "\n"); e == api.OK {
			if p, _, _ := almanac.Print(l); p != s+"\n" {
				t.Errorf("Parse of %q: %+v", s, l)
			}
			continue
		}
		for ahead := range 3 {
			text := strings.Repeat("tick 1\n", ahead) + s + "\ntick 2\nx\n"
			if l, n, e := almanac.Parse(text); l != nil || n != ahead || e != api.ErrForm {
				t.Errorf("Parse of %q behind %d: %v, %d, %d", s, ahead, l, n, e)
			}
		}
	}
	for _, s := range []string{"tick 1", "tick 1\ntick 2", "tick 1\ntick", "tick 1\n\n", "\n", "tick 1\n "} { // one without its end; an empty one
		want := strings.Count(s, "tick 1\n")
		if l, n, e := almanac.Parse(s); l != nil || n != want || e != api.ErrForm {
			t.Errorf("Parse of %q: %v, %d, %d", s, l, n, e)
		}
	}
	// Each of these must be refused, whatever luck is.
	for _, s := range []string{"tick 1 ", " tick 1", "tick  1", "tick 01", "tick -0", "tick +1", "tick 1 2", "Tick 1", "turn 1", "turn 1 2 ", "spoil 1 2", "write 1 put a 1 ", "watch 1 a ", "watch 1 ", "", "tick nil", "tick \"1\"", "tick 9223372036854775808", "write 1 put a 01"} {
		if _, _, e := almanac.Parse(s + "\n"); e != api.ErrForm {
			t.Errorf("Parse of %q: %d", s, e)
		}
	}
}

func TestP25_1_Record(t *testing.T) {
	for _, o := range ops {
		r := arbor.Record{Step: 1234, Node: 11, Op: op(o), Id: api.Id{Dev: 11, Seq: 40}}
		if s := almanac.Record(r); s != "1234 11 11/40 "+o {
			t.Errorf("Record: %q", s)
		}
		for e := api.ErrRange; e <= api.ErrTree; e++ {
			r := arbor.Record{Step: 1, Node: -3, Op: op(o), Err: e}
			if s := almanac.Record(r); s != "1 -3 error "+strconv.Itoa(int(e))+" "+o {
				t.Errorf("Record: %q", s)
			}
		}
	}
}

func TestP25_1_Node(t *testing.T) {
	a := made(t, "hub 0 *;device 1 *")
	is := func(n int, want string) {
		t.Helper()
		if s := almanac.Node(a, n); s != want {
			t.Errorf("Node(%d): %q, want %q", n, s, want)
		}
	}
	is(0, "0 up life 1 end 0 base 0 queue 0 tail 0")
	for _, n := range []int{3, -1, least, greatest} {
		is(n, strconv.Itoa(n)+" down")
	}
	for _, s := range []string{"put b \"a%20b\"", "put a -5", "put c 1", "del c"} {
		a.Do(arbor.Act{Kind: arbor.Write, A: 2, Op: op(s)})
	}
	is(2, "2 up life 1 end 0 base 0 queue 4 tail 0 a=-5 b=\"a%20b\"")
	a.Do(arbor.Act{Kind: arbor.Calm, A: 9})
	is(0, "0 up life 1 end 4 base 0 queue 0 tail 0 a=-5 b=\"a%20b\"")
	a.Do(arbor.Act{Kind: arbor.Crash, A: 0})
	a.Do(arbor.Act{Kind: arbor.Write, A: 2, Op: op("put a 7")})
	is(0, "0 down")
	a.Do(arbor.Act{Kind: arbor.Cut, A: 1})
	a.Do(arbor.Act{Kind: arbor.Tick, A: 2})
	a.Do(arbor.Act{Kind: arbor.Deliver})
	a.Do(arbor.Act{Kind: arbor.Deliver})
	for len(a.Air()) > 0 {
		a.Do(arbor.Act{Kind: arbor.Deliver})
	}
	is(1, "1 up life 1 end 4 base 4 queue 1 tail 0 a=7 b=\"a%20b\"")
	is(2, "2 up life 1 end 4 base 0 queue 1 tail 1 a=7 b=\"a%20b\"")
}

func TestP25_1_Play(t *testing.T) {
	a := made(t, "hub 0 *;device 1 *")
	play := func(script, want string) {
		t.Helper()
		l, n, e := almanac.Parse(script)
		if e != api.OK {
			t.Fatalf("Parse: %d, %d", n, e)
		}
		if s := almanac.Play(a, l); s != want {
			t.Errorf("Play: %q, want %q", s, want)
		}
	}
	play("", "0 up life 1 end 0 base 0 queue 0 tail 0\n1 up life 1 end 0 base 0 queue 0 tail 0\n2 up life 1 end 0 base 0 queue 0 tail 0\n")
	play("write 2 put a 1\ntick 2\nwrite 1 del a\ncrash 1 0\n", "1 2 2/1 put a 1\n3 1 error 17 del a\n0 up life 1 end 0 base 0 queue 0 tail 0\n1 down\n2 up life 1 end 0 base 0 queue 1 tail 0 a=1\n")
	// Just the records that came.
	play("calm 9\nwrite 2 add a 2\nstart 9\n", "6 2 2/2 add a 2\n0 up life 1 end 1 base 0 queue 0 tail 0 a=1\n1 up life 2 end 1 base 0 queue 0 tail 0 a=1\n2 up life 1 end 1 base 0 queue 1 tail 0 a=3\n")
	if s := almanac.Play(a, []arbor.Act{{Kind: 77}, {}}); strings.Count(s, "\n") != 3 || a.Steps() != 9 {
		t.Errorf("Play of acts that aren't good: %q", s)
	}
}

// P25.2: scripts by chance, and texts by chance.
func TestP25_2_ThereAndBack(t *testing.T) {
	r := rand.New(rand.NewSource(25))
	all := pairs()
	for range 500 {
		var l []arbor.Act
		for range r.Intn(30) {
			l = append(l, all[r.Intn(len(all))].x)
		}
		s, _, e := almanac.Print(l)
		got, n, f := almanac.Parse(s)
		if e != api.OK || f != api.OK || n != 0 || !slices.Equal(got, l) {
			t.Fatalf("%v: %v", l, got)
		}
		b := []byte(s)
		if len(b) == 0 {
			continue
		}
		i := r.Intn(len(b))
		b[i] = " \n019-ab\"%\x00\xff"[r.Intn(12)]
		if got, _, e := almanac.Parse(string(b)); e == api.OK {
			if p, _, e := almanac.Print(got); p != string(b) || e != api.OK {
				t.Fatalf("%q is printed as %q", b, p)
			}
		}
	}
}

func FuzzParse(f *testing.F) {
	for _, p := range pairs() {
		f.Add(p.s + "\n")
	}
	f.Fuzz(func(t *testing.T, s string) {
		l, n, e := almanac.Parse(s)
		if e != api.OK {
			if e != api.ErrForm || l != nil || n < 0 || n > strings.Count(s, "\n") {
				t.Errorf("Parse of %q: %v, %d, %d", s, l, n, e)
			}
			return
		}
		if p, _, e := almanac.Print(l); p != s || e != api.OK || n != 0 {
			t.Errorf("%q is printed as %q", s, p)
		}
	})
}
