package deed_test

import (
	"math"
	"strconv"
	"strings"
	"testing"
	"unsafe"

	"spinney/api"
	"spinney/deed"
)

// anyTexts: texts of any bytes, most of them no key and no line.
func anyTexts() []string {
	l := append(keys(), noKeys()...)
	for _, p := range []string{" ", "put", "put ", "put a ", "a", "del ", "cas k ", "\"", "%", "0", "\x00", "\xff", "\xf0\x9f"} {
		l = append(l, p, strings.Repeat(p, 1<<12), "put a "+strings.Repeat(p, 1<<12), "cas a nil "+p, "del "+p)
	}
	for i := range 256 {
		c := string([]byte{byte(i)})
		l = append(l, c, "put"+c+"a 1", "put a "+c, "del "+c, `put a "`+c+`"`)
	}
	return l
}

// anyOps: good ones, and others.
func anyOps() []api.Op {
	l := append(goodOps(), badOps()...)
	for _, kind := range []int{math.MinInt, -1, 0, api.Put, api.Del, api.Add, api.Cas, 5, math.MaxInt} {
		for _, v := range badValues() {
			l = append(l, api.Op{Kind: kind}, api.Op{Kind: kind, Key: strings.Repeat(" ", 1000), A: v, B: v}, api.Op{Kind: kind, Key: "k", A: v}, api.Op{Kind: kind, Key: "k", B: v})
		}
	}
	return l
}

func anyValues() []api.Value { return append(goodValues(), badValues()...) }

type answers struct {
	key, good bool
	left      api.Value
	leftErr   api.Errno
	line      string
	read      api.Op
	readErr   api.Errno
}

func ask(o api.Op, v api.Value, s string) (r answers) {
	r.key, r.good, r.line = deed.Key(s), deed.Good(o), deed.Line(o)
	r.left, r.leftErr = deed.Do(o, v)
	r.read, r.readErr = deed.Read(s)
	return r
}

// All calls end, and none panics, of what isn't good too.
func TestP9_AnyArguments(t *testing.T) {
	for _, o := range anyOps() {
		for _, v := range anyValues() {
			ask(o, v, o.Key)
		}
	}
	for _, s := range anyTexts() {
		deed.Key(s)
		deed.Read(s)
	}
}

// R1.
func TestP10_R1_IntHas64Bits(t *testing.T) {
	if strconv.IntSize != 64 {
		t.Errorf("an int has %d bits", strconv.IntSize)
	}
	if o, e := deed.Read("add k 9223372036854775807"); o != add("k", 1<<63-1) || e != api.OK {
		t.Errorf("Read of the greatest int: %#v, %d", o, e)
	}
	if v, e := deed.Do(add("k", 1<<62), num(1<<62-1)); v != num(1<<63-1) || e != api.OK {
		t.Errorf("the greatest sum: %#v, %d", v, e)
	}
}

// R2: what could be two errors is the one that is named first (an Add's: of each good value just one can be).
func TestP10_R2_TheFirstError(t *testing.T) {
	over := api.Value{Kind: api.Text, Num: math.MaxInt}
	if _, e := deed.Do(add("k", 1), over); e != api.ErrKind {
		t.Errorf("add k 1 upon %#v: %d, want ErrKind", over, e)
	}
	for _, s := range []string{"put K 9223372036854775808", `put a "` + strings.Repeat("a", api.MaxText+1) + `"`, "add a 9223372036854775808"} {
		if _, e := deed.Read(s); e != api.ErrForm {
			t.Errorf("Read(%q): %d, want ErrForm", s, e)
		}
	}
}

// R3: beside an error stands the zero value, but what Do leaves: there the value stays.
func TestP10_R3_BesideAnError(t *testing.T) {
	for _, s := range anyTexts() {
		if o, e := deed.Read(s); e != api.OK && o != (api.Op{}) {
			t.Errorf("Read(%.50q): %#v beside %d", s, o, e)
		}
	}
	for _, o := range anyOps() {
		for _, v := range anyValues() {
			if left, e := deed.Do(o, v); e != api.OK && left != v {
				t.Errorf("Do(%#v, %#v): %#v beside %d", o, v, left, e)
			}
		}
	}
}

// R4, R8: nothing is kept: whatever was asked between, errors too, an answer is what it was.
func TestP10_R4_R8_TheSameAgain(t *testing.T) {
	ops, values, texts := anyOps(), anyValues(), anyTexts()
	var first []answers
	for i, s := range texts {
		first = append(first, ask(ops[i%len(ops)], values[i*7%len(values)], s))
	}
	for i := len(texts) - 1; i >= 0; i-- {
		if again := ask(ops[i%len(ops)], values[i*7%len(values)], texts[i]); again != first[i] {
			t.Errorf("%d: %#v, then %#v", i, first[i], again)
		}
	}
}

// shares tells whether two texts have bytes of one memory.
func shares(a, b string) bool {
	if a == "" || b == "" {
		return false
	}
	x, y := uintptr(unsafe.Pointer(unsafe.StringData(a))), uintptr(unsafe.Pointer(unsafe.StringData(b)))
	return x < y+uintptr(len(b)) && y < x+uintptr(len(a))
}

// R6: an answer shares no memory with what was handed in, which stays. (R5 speaks of lists; this layer has none.)
func TestP10_R6_NewMemory(t *testing.T) {
	for _, s := range []string{"del abc", `put abc "xyz"`, `cas abc "xyz" "uvw"`} {
		in := strings.Clone(s)
		o, e := deed.Read(in)
		if e != api.OK || shares(o.Key, in) || shares(o.A.Text, in) || shares(o.B.Text, in) || in != s {
			t.Errorf("Read(%q): %#v, %d: not new memory", s, o, e)
		}
		if line := deed.Line(o); line != s || shares(line, o.Key) || shares(line, o.A.Text) || shares(line, o.B.Text) {
			t.Errorf("Line(%#v): %q: not new memory", o, line)
		}
	}
	x, y := strings.Clone("xyz"), strings.Clone("uvw")
	for _, o := range []api.Op{put("k", text(x)), cas("k", text(y), text(x)), add("k", 1), cas("k", num(1), text(x))} {
		v, e := deed.Do(o, text(y))
		if v.Text == "" || shares(v.Text, x) || shares(v.Text, y) || x != "xyz" || y != "uvw" {
			t.Errorf("Do(%#v): %#v, %d: not new memory", o, v, e)
		}
	}
}

// R7: of what isn't good nothing is promised but that it ends; here Do goes by what stands there, and what is no operation fails.
func TestP10_R7_OperationsThatAreNotGood(t *testing.T) {
	long := text(strings.Repeat("a", api.MaxText+1))
	for _, c := range []struct {
		o       api.Op
		v, want api.Value
		err     api.Errno
	}{
		{put("", long), num(1), long, api.OK}, {put("k", api.Value{}), num(1), api.Value{}, api.OK}, {api.Op{Kind: api.Add, A: text("1")}, num(1), num(1), api.ErrKind},
		{api.Op{Kind: api.Del, A: num(1)}, num(1), api.Value{}, api.OK}, {cas("K", long, num(1)), long, num(1), api.OK},
		{api.Op{Key: "k", A: num(1)}, num(2), num(2), api.ErrForm}, {api.Op{Kind: 5, Key: "k", A: num(1)}, text("x"), text("x"), api.ErrForm}, {api.Op{Kind: -1}, api.Value{}, api.Value{}, api.ErrForm},
	} {
		if v, e := deed.Do(c.o, c.v); v != c.want || e != c.err {
			t.Errorf("Do(%#v, %#v): %#v, %d", c.o, c.v, v, e)
		}
	}
}
