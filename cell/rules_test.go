package cell_test

import (
	"math"
	"strconv"
	"strings"
	"testing"
	"unsafe"

	"spinney/api"
	"spinney/cell"
)

// anyTexts: texts of any bytes, most of them no value's.
func anyTexts() []string {
	l := []string{"", "\x00", "\xff", "\xf0\x9f", "-", "\"", "\"\"", "\"%", "\"%\"", "\"%2\"", "nil", "0", "-0", "\ufffd",
		strings.Repeat("1", 1<<16), strings.Repeat("0", 1<<16), strings.Repeat("\"", 1<<16), "\"" + strings.Repeat("%", 1<<16) + "\"", "\"" + strings.Repeat("a", 1<<20) + "\""}
	for i := range 256 {
		l = append(l, string([]byte{byte(i)}), string([]byte{'"', byte(i), '"'}), string([]byte{'-', byte(i)}))
	}
	return l
}

// anyValues: good ones, and others.
func anyValues() []api.Value {
	l := append(rising(), bad()...)
	for _, k := range []api.Kind{math.MinInt, -1, api.None, api.Int, api.Text, 3, math.MaxInt} {
		for _, n := range []int{math.MinInt, 0, math.MaxInt} {
			for _, s := range []string{"", "\xff\x00", strings.Repeat("x", 1<<12)} {
				l = append(l, api.Value{Kind: k, Num: n, Text: s})
			}
		}
	}
	return l
}

type answers struct {
	good    bool
	order   int
	sum     api.Value
	sumErr  api.Errno
	text    string
	read    api.Value
	readErr api.Errno
}

func ask(a, b api.Value, s string) (r answers) {
	r.good, r.order, r.text = cell.Good(a), cell.Compare(a, b), cell.Text(a)
	r.sum, r.sumErr = cell.Sum(a, b)
	r.read, r.readErr = cell.Read(s)
	return r
}

// All calls end, and none panics: R7 lets this layer's take any values.
func TestP9_AnyArguments(t *testing.T) {
	values := anyValues()
	for _, a := range values {
		for _, b := range values {
			ask(a, b, a.Text)
		}
	}
	for _, s := range anyTexts() {
		cell.Read(s)
		cell.Text(text(s))
		cell.Good(text(s))
	}
}

// R1.
func TestP10_R1_IntHas64Bits(t *testing.T) {
	if strconv.IntSize != 64 {
		t.Errorf("an int has %d bits", strconv.IntSize)
	}
	if v, e := cell.Read("9223372036854775807"); v != num(1<<63-1) || e != api.OK {
		t.Errorf("Read of the greatest int: %#v, %d", v, e)
	}
}

// R2: what could be two errors is the one that is named first.
func TestP10_R2_TheFirstError(t *testing.T) {
	long := strings.Repeat("a", api.MaxText+1)
	for _, s := range []string{`"` + long, `"` + long + `%"`, `"` + long + `%41"`, `"` + long + ` "`, `"` + long + `""`, "0" + strings.Repeat("9", 30), "-0" + strings.Repeat("9", 30), strings.Repeat("9", 30) + "x", "+" + strings.Repeat("9", 30)} {
		if _, e := cell.Read(s); e != api.ErrForm {
			t.Errorf("Read(%q): %d, want ErrForm", s, e)
		}
	}
	over := api.Value{Kind: api.Text, Num: math.MaxInt}
	for _, p := range [][2]api.Value{{num(math.MaxInt), over}, {over, num(math.MaxInt)}, {{Num: math.MinInt}, num(-1)}} {
		if _, e := cell.Sum(p[0], p[1]); e != api.ErrKind {
			t.Errorf("Sum(%#v, %#v): %d, want ErrKind", p[0], p[1], e)
		}
	}
}

// R3: beside an error stands the zero value.
func TestP10_R3_BesideAnError(t *testing.T) {
	for _, a := range anyValues() {
		for _, b := range anyValues() {
			if v, e := cell.Sum(a, b); e != api.OK && v != (api.Value{}) {
				t.Errorf("Sum(%#v, %#v): %#v beside %d", a, b, v, e)
			}
		}
	}
	for _, s := range anyTexts() {
		if v, e := cell.Read(s); e != api.OK && v != (api.Value{}) {
			t.Errorf("Read(%.50q): %#v beside %d", s, v, e)
		}
	}
}

// R4, R8: nothing is kept: whatever was asked between, errors too, an answer is what it was.
func TestP10_R4_R8_TheSameAgain(t *testing.T) {
	values, texts := anyValues(), anyTexts()
	var first []answers
	for i, s := range texts {
		first = append(first, ask(values[i%len(values)], values[i*7%len(values)], s))
	}
	for i := len(texts) - 1; i >= 0; i-- {
		if again := ask(values[i%len(values)], values[i*7%len(values)], texts[i]); again != first[i] {
			t.Errorf("%d: %#v, then %#v", i, first[i], again)
		}
	}
}

// shares tells whether two texts have bytes of one memory.
func shares(a, b string) bool {
	if a == "" || b == "" {
		return false
	}
	x, y := uintptr(unsafe.Pointer(unsafe.StringData(a))), uintptr(unsafe.Pointer(unsafe.StringData(b)))
	return x < y+uintptr(len(b)) && y < x+uintptr(len(a))
}

// R6: an answer shares no memory with what was handed in, which stays. (R5 speaks of lists; this layer has none.)
func TestP10_R6_NewMemory(t *testing.T) {
	for _, s := range []string{`"a"`, `"abc"`, `"a%20b"`, `"` + strings.Repeat("a", api.MaxText) + `"`} {
		in := strings.Clone(s)
		v, e := cell.Read(in)
		if e != api.OK || shares(v.Text, in) || in != s {
			t.Errorf("Read(%q): %#v, %d: not new memory", s, v, e)
		}
		if x := cell.Text(v); shares(x, v.Text) || x != s {
			t.Errorf("Text(%#v): %q: not new memory", v, x)
		}
	}
}

// R7: of values that aren't good the calls do what their words say by what stands there.
func TestP10_R7_ValuesThatAreNotGood(t *testing.T) {
	long := strings.Repeat("a", api.MaxText+1)
	odd := api.Value{Kind: api.Int, Num: 2, Text: "x"}
	if v, e := cell.Sum(odd, num(3)); v != num(5) || e != api.OK {
		t.Errorf("Sum(%#v, 3): %#v, %d", odd, v, e)
	}
	if c := cell.Compare(odd, num(3)); c != -1 {
		t.Errorf("Compare(%#v, 3): %d", odd, c)
	}
	if c := cell.Compare(odd, num(2)); c != 0 {
		t.Errorf("Compare(%#v, 2): %d", odd, c)
	}
	if s := cell.Text(odd); s != "2" {
		t.Errorf("Text(%#v): %s", odd, s)
	}
	if c := cell.Compare(text(long), text(long[1:])); c != 1 {
		t.Errorf("Compare of a text that is too long: %d", c)
	}
	if _, e := cell.Read(cell.Text(text(long))); e != api.ErrRange {
		t.Errorf("Read of the text of one that is too long: %d", e)
	}
}
