package deed_test

import (
	"math"
	"regexp"
	"strings"
	"testing"

	"spinney/api"
	"spinney/cell"
	"spinney/deed"
)

const letters = "abcdefghijklmnopqrstuvwxyz0123456789.-"

func num(n int) api.Value     { return api.Value{Kind: api.Int, Num: n} }
func text(s string) api.Value { return api.Value{Kind: api.Text, Text: s} }

func put(k string, a api.Value) api.Op    { return api.Op{Kind: api.Put, Key: k, A: a} }
func del(k string) api.Op                 { return api.Op{Kind: api.Del, Key: k} }
func add(k string, n int) api.Op          { return api.Op{Kind: api.Add, Key: k, A: num(n)} }
func cas(k string, a, b api.Value) api.Op { return api.Op{Kind: api.Cas, Key: k, A: a, B: b} }

// keys: good ones.
func keys() []string {
	return []string{"a", "z", "0", "9", ".", "-", "..", "--", "n.1", "nil", "put", "a-b.c", letters[:api.MaxKey], letters[len(letters)-api.MaxKey:], strings.Repeat("k", api.MaxKey-1), strings.Repeat(".", api.MaxKey)}
}

// noKeys: texts that are no keys.
func noKeys() []string {
	return []string{"", " ", "A", "Z", "_", "a b", " a", "a ", "a\n", "\x00", "a\x00", "\xff", "é", "ａ", "\u0661", "a/b", "a,b", "a:b", "`", "{", "\"", "%", "%61",
		strings.Repeat("k", api.MaxKey+1), strings.Repeat("-", api.MaxKey+1), strings.Repeat("k", api.MaxKey) + " ", strings.Repeat("k", 1000), strings.Repeat("é", api.MaxKey/2)}
}

func ints() []api.Value {
	var l []api.Value
	for _, n := range []int{math.MinInt, math.MinInt + 1, math.MinInt / 2, -1 << 32, -7, -1, 0, 1, 5, 7, 1 << 32, math.MaxInt/2 + 1, math.MaxInt - 1, math.MaxInt} {
		l = append(l, num(n))
	}
	return l
}

func texts() []api.Value {
	var l []api.Value
	for _, s := range []string{"", "7", "nil", "a", "a \"", "%41", "put a 1", "\x00", "\xff", "é", strings.Repeat("a", api.MaxText), strings.Repeat(" ", api.MaxText)} {
		l = append(l, text(s))
	}
	return l
}

// goodValues: nothing, ints, texts.
func goodValues() []api.Value {
	return append(append([]api.Value{{}}, ints()...), texts()...)
}

func badValues() []api.Value {
	return []api.Value{{Num: 1}, {Text: "x"}, {Kind: api.Int, Text: "x"}, {Kind: api.Int, Num: 1, Text: "x"}, {Kind: api.Text, Num: 1}, {Kind: api.Text, Num: 1, Text: "x"},
		text(strings.Repeat("a", api.MaxText+1)), {Kind: 3}, {Kind: 3, Num: 1}, {Kind: -1}, {Kind: math.MinInt, Text: "x"}}
}

// goodOps: all kinds, with all good values.
func goodOps() []api.Op {
	l := []api.Op{}
	for _, k := range keys() {
		l = append(l, del(k), put(k, num(1)), add(k, -1), cas(k, api.Value{}, text("x")))
	}
	for _, a := range goodValues() {
		if a.Kind != api.None {
			l = append(l, put("k", a))
		}
		if a.Kind == api.Int {
			l = append(l, add("k", a.Num))
		}
		for _, b := range goodValues() {
			l = append(l, cas("k", a, b))
		}
	}
	return l
}

// badOps: operations that aren't good.
func badOps() []api.Op {
	l := []api.Op{put("k", api.Value{}), {Kind: api.Add, Key: "k"}}
	for _, v := range texts() {
		l = append(l, api.Op{Kind: api.Add, Key: "k", A: v})
	}
	for _, v := range append(append(ints(), texts()...), badValues()...) { // what must not be there
		l = append(l, api.Op{Kind: api.Put, Key: "k", A: num(1), B: v}, api.Op{Kind: api.Add, Key: "k", A: num(1), B: v},
			api.Op{Kind: api.Del, Key: "k", A: v}, api.Op{Kind: api.Del, Key: "k", B: v})
	}
	for _, v := range badValues() {
		l = append(l, put("k", v), api.Op{Kind: api.Add, Key: "k", A: v}, cas("k", v, num(1)), cas("k", num(1), v), cas("k", v, v))
	}
	for _, k := range noKeys() {
		l = append(l, put(k, num(1)), del(k), add(k, 1), cas(k, num(1), num(2)))
	}
	for _, kind := range []int{math.MinInt, -1, 0, 5, 6, 1 << 32, math.MaxInt} {
		l = append(l, api.Op{Kind: kind, Key: "k"}, api.Op{Kind: kind, Key: "k", A: num(1)}, api.Op{Kind: kind, Key: "k", A: num(1), B: num(2)})
	}
	return l
}

func TestP2_1_Key(t *testing.T) {
	for _, k := range keys() {
		if !deed.Key(k) {
			t.Errorf("Key(%q): false", k)
		}
	}
	for _, k := range noKeys() {
		if deed.Key(k) {
			t.Errorf("Key(%q): true", k)
		}
	}
}

func TestP2_1_KeyOfEachByte(t *testing.T) {
	for i := range 256 {
		c := string([]byte{byte(i)})
		want := strings.Contains(letters, c)
		for _, k := range []string{c, c + "a", "a" + c, "a" + c + "a", c + strings.Repeat("a", api.MaxKey-1), strings.Repeat("a", api.MaxKey-1) + c} {
			if deed.Key(k) != want {
				t.Errorf("Key(%q): %v", k, !want)
			}
		}
		for _, k := range []string{c + strings.Repeat("a", api.MaxKey), strings.Repeat("a", api.MaxKey) + c} {
			if deed.Key(k) {
				t.Errorf("Key(%q): true", k)
			}
		}
	}
}

func TestP2_1_KeyOfEachLength(t *testing.T) {
	for n := range 100 {
		if k := strings.Repeat("a", n); deed.Key(k) != (n >= 1 && n <= 20) {
			t.Errorf("Key of %d bytes: %v", n, deed.Key(k))
		}
	}
}

func TestP2_1_Good(t *testing.T) {
	for _, o := range goodOps() {
		if !deed.Good(o) {
			t.Errorf("Good(%#v): false", o)
		}
	}
	for _, o := range badOps() {
		if deed.Good(o) {
			t.Errorf("Good(%#v): true", o)
		}
	}
}

func TestP2_1_Do(t *testing.T) {
	one, seven, word, none := num(1), num(7), text("7"), api.Value{}
	for _, c := range []struct {
		o       api.Op
		v, want api.Value
		err     api.Errno
	}{
		{put("k", one), none, one, api.OK}, {put("k", one), seven, one, api.OK}, {put("k", one), one, one, api.OK}, {put("k", one), word, one, api.OK},
		{put("k", word), none, word, api.OK}, {put("k", word), seven, word, api.OK}, {put("k", text("")), word, text(""), api.OK},
		{del("k"), seven, none, api.OK}, {del("k"), num(0), none, api.OK}, {del("k"), word, none, api.OK}, {del("k"), text(""), none, api.OK}, {del("k"), none, none, api.ErrNone},
		{add("n.1", 5), seven, num(12), api.OK}, {add("k", -8), seven, num(-1), api.OK}, {add("k", 0), seven, seven, api.OK}, {add("k", 5), num(0), num(5), api.OK},
		{add("n.1", 5), word, word, api.ErrKind}, {add("k", 5), text(""), text(""), api.ErrKind}, {add("k", 5), none, none, api.ErrKind}, {add("k", 0), none, none, api.ErrKind},
		{cas("k", none, one), none, one, api.OK}, {cas("k", none, none), none, none, api.OK}, {cas("k", none, word), none, word, api.OK},
		{cas("k", one, seven), one, seven, api.OK}, {cas("k", one, one), one, one, api.OK}, {cas("k", one, none), one, none, api.OK}, {cas("k", one, word), one, word, api.OK},
		{cas("k", word, one), word, one, api.OK}, {cas("k", word, none), word, none, api.OK}, {cas("k", text(""), one), text(""), one, api.OK},
		{cas("k", none, one), seven, seven, api.ErrCase}, {cas("k", none, one), num(0), num(0), api.ErrCase}, {cas("k", none, one), text(""), text(""), api.ErrCase}, {cas("k", none, none), one, one, api.ErrCase},
		{cas("k", one, seven), none, none, api.ErrCase}, {cas("k", one, seven), num(2), num(2), api.ErrCase}, {cas("k", one, seven), seven, seven, api.ErrCase}, {cas("k", seven, one), word, word, api.ErrCase}, {cas("k", num(0), one), none, none, api.ErrCase},
		{cas("k", word, one), seven, seven, api.ErrCase}, {cas("k", word, one), text("77"), text("77"), api.ErrCase}, {cas("k", word, one), text(""), text(""), api.ErrCase}, {cas("k", text(""), one), none, none, api.ErrCase},
	} {
		if v, e := deed.Do(c.o, c.v); v != c.want || e != c.err {
			t.Errorf("%s upon %s: %#v, %d, want %#v, %d", deed.Line(c.o), cell.Text(c.v), v, e, c.want, c.err)
		}
	}
}

func TestP2_1_DoOfSums(t *testing.T) {
	const greatest, least = math.MaxInt, math.MinInt
	for _, c := range []struct{ v, a, want int }{
		{greatest, 0, greatest}, {greatest - 1, 1, greatest}, {greatest, -1, greatest - 1}, {greatest, least, -1}, {greatest, -greatest, 0}, {1 << 62, 1<<62 - 1, greatest},
		{least, 0, least}, {least + 1, -1, least}, {least, 1, least + 1}, {least, greatest, -1}, {-1 << 62, -1 << 62, least}, {-1, least + 1, least},
	} {
		if v, e := deed.Do(add("k", c.a), num(c.v)); v != num(c.want) || e != api.OK {
			t.Errorf("add k %d upon %d: %#v, %d, want %d", c.a, c.v, v, e, c.want)
		}
	}
	for _, c := range []struct{ v, a int }{
		{greatest, 1}, {1, greatest}, {greatest, greatest}, {1 << 62, 1 << 62}, {2, greatest - 1},
		{least, -1}, {-1, least}, {least, least}, {-1 << 62, -1<<62 - 1}, {-2, least + 1},
	} {
		if v, e := deed.Do(add("k", c.a), num(c.v)); v != num(c.v) || e != api.ErrOver {
			t.Errorf("add k %d upon %d: %#v, %d, want ErrOver", c.a, c.v, v, e)
		}
	}
}

// Which key an operation is upon doesn't change what it leaves.
func TestP2_1_DoAtEachKey(t *testing.T) {
	for _, k := range keys() {
		if v, e := deed.Do(add(k, 5), num(7)); v != num(12) || e != api.OK {
			t.Errorf("add %s 5 upon 7: %#v, %d", k, v, e)
		}
		if v, e := deed.Do(del(k), api.Value{}); v != (api.Value{}) || e != api.ErrNone {
			t.Errorf("del %s upon nothing: %#v, %d", k, v, e)
		}
	}
}

// fails: why an operation fails, told by the chapter's words alone.
func fails(o api.Op, v api.Value) api.Errno {
	switch {
	case o.Kind == api.Del && v.Kind == api.None:
		return api.ErrNone
	case o.Kind == api.Add && v.Kind != api.Int:
		return api.ErrKind
	case o.Kind == api.Add && (o.A.Num > 0 && v.Num > math.MaxInt-o.A.Num || o.A.Num < 0 && v.Num < math.MinInt-o.A.Num):
		return api.ErrOver
	case o.Kind == api.Cas && cell.Compare(o.A, v) != 0:
		return api.ErrCase
	}
	return api.OK
}

func TestP2_2_WhatIsLeft(t *testing.T) {
	for _, o := range goodOps() {
		for _, v := range goodValues() {
			left, e := deed.Do(o, v)
			if e != fails(o, v) {
				t.Errorf("%s upon %s: %d, want %d", deed.Line(o), cell.Text(v), e, fails(o, v))
			}
			if !cell.Good(left) {
				t.Errorf("%s upon %s: leaves %#v, which isn't good", deed.Line(o), cell.Text(v), left)
			}
			if e != api.OK && left != v {
				t.Errorf("%s upon %s: %d, leaves %#v", deed.Line(o), cell.Text(v), e, left)
			}
		}
	}
}

func TestP2_1_Line(t *testing.T) {
	long := strings.Repeat("k", api.MaxKey)
	for _, c := range []struct {
		o    api.Op
		want string
	}{
		{put("a", num(1)), "put a 1"}, {put("a", num(-1)), "put a -1"}, {put("a", num(0)), "put a 0"}, {put("a", text("")), `put a ""`}, {put("a", text("nil")), `put a "nil"`}, {put("a", text("1")), `put a "1"`},
		{put(long, num(math.MinInt)), "put " + long + " -9223372036854775808"}, {put("put", text("a b")), `put put "a%20b"`}, {put("-", text("\"%\n")), `put - "%22%25%0a"`},
		{put("k", text(strings.Repeat("\xff", api.MaxText))), `put k "` + strings.Repeat("%ff", api.MaxText) + `"`},
		{del("a"), "del a"}, {del("nil"), "del nil"}, {del(long), "del " + long}, {del("."), "del ."},
		{add("n.1", 5), "add n.1 5"}, {add("a", -5), "add a -5"}, {add("a", 0), "add a 0"}, {add("a", math.MaxInt), "add a 9223372036854775807"},
		{cas("k", api.Value{}, num(1)), "cas k nil 1"}, {cas("k", num(1), api.Value{}), "cas k 1 nil"}, {cas("k", api.Value{}, api.Value{}), "cas k nil nil"}, {cas("a-b", text("x y"), num(-2)), `cas a-b "x%20y" -2`}, {cas("k", text(""), text("nil")), `cas k "" "nil"`},
	} {
		if s := deed.Line(c.o); s != c.want {
			t.Errorf("Line(%#v): %q, want %q", c.o, s, c.want)
		}
	}
}

func TestP2_3_EachLineComesBack(t *testing.T) {
	for _, o := range goodOps() {
		s := deed.Line(o)
		if x, e := deed.Read(s); x != o || e != api.OK {
			t.Errorf("Read(%q): %#v, %d, want %#v", s, x, e, o)
		}
	}
}

// Two operations have two lines.
func TestP2_3_NoLineTwice(t *testing.T) {
	lines := map[string]api.Op{}
	for _, o := range goodOps() {
		s := deed.Line(o)
		if x, ok := lines[s]; ok && x != o {
			t.Errorf("%q is the line of %#v and of %#v", s, x, o)
		}
		lines[s] = o
	}
}

func TestP2_3_Refused(t *testing.T) {
	a, k := strings.Repeat("a", api.MaxText), strings.Repeat("k", api.MaxKey)
	for _, s := range []string{
		"", " ", "  ", "put", "put ", "put a", "put a ", "put  1", "put a  1", "put  a 1", " put a 1", "put a 1 ", "put a 1\n", "put a 1 2", "put a 1 nil", "put a\t1", "put\ta 1",
		"put a nil", "put a x", "put a +1", "put a 01", "put a -0", "put A 1", "put a_b 1", "put \"a\" 1", "put é 1", `put a "`, `put a "a b"`, `put a "%41"`, `put a "%0A"`, "put a 'x'",
		"put a 9223372036854775808", "put a -9223372036854775809", `put a "` + a + `a"`, "put " + k + "k 1",
		"del", "del ", "del  a", "del a ", "del a nil", "del a 1", "del A", "del \"a\"", "del " + k + "k", "del a\n",
		"add", "add a", "add a ", "add a nil", `add a "1"`, `add a ""`, "add a 1 1", "add a 1 nil", "add a 1.0", "add a 9223372036854775808", "add " + k + "k 1",
		"cas", "cas a", "cas a ", "cas a 1", "cas a 1 ", "cas a nil", "cas a  1", "cas a 1  2", "cas a 1 2 ", "cas a 1 2 3", "cas a 1 2 3 4", "cas a x 2", "cas a 1 x", "cas a nil Nil", "cas a 9223372036854775808 1", "cas a 1 9223372036854775808", `cas a "` + a + `a" 1`, `cas a 1 "` + a + `a"`, "cas " + k + "k 1 2",
		"Put a 1", "PUT a 1", "puta 1", "putt a 1", "pu a 1", "get a", "get a 1", "nil a", "a", "1", "1 a 1", "a put 1", " a", " a 1", " a 1 2", "put a 1 del b", "put a 1;", "\x00put a 1",
		strings.Repeat(" ", 1<<16), "del " + strings.Repeat("a ", 1<<16), strings.Repeat("put a 1 ", 1000),
	} {
		if o, e := deed.Read(s); e != api.ErrForm || o != (api.Op{}) {
			t.Errorf("Read(%.60q): %#v, %d, want ErrForm", s, o, e)
		}
	}
}

// The line of what isn't good is none: what it tells isn't read as another operation.
func TestP2_3_LinesOfWhatIsNotGood(t *testing.T) {
	for _, o := range badOps() {
		if x, e := deed.Read(deed.Line(o)); e == api.OK && (!deed.Good(x) || x.Kind != o.Kind || x.Key != o.Key) || e != api.OK && x != (api.Op{}) {
			t.Errorf("Read of the line of %#v: %#v, %d", o, x, e)
		}
	}
}

// formed: what all good lines are of, with values that may be too long yet, told without the package.
const (
	aKey  = `[a-z0-9.-]{1,20}`
	anInt = `(0|-?[1-9][0-9]*)`
	aText = `("([!#$&-~]|%([01][0-9a-f]|2[025]|7f|[89a-f][0-9a-f]))*")`
	some  = `(` + anInt + `|` + aText + `)`
	value = `(nil|` + some + `)`
)

var formed = regexp.MustCompile(`\A(put ` + aKey + ` ` + some + `|del ` + aKey + `|add ` + aKey + ` ` + anInt + `|cas ` + aKey + ` ` + value + ` ` + value + `)\z`)

// isLine tells whether s is a good operation's line.
func isLine(s string) bool {
	if !formed.MatchString(s) {
		return false
	}
	for _, p := range strings.Split(s, " ")[2:] {
		if _, e := cell.Read(p); e != api.OK {
			return false
		}
	}
	return true
}

// one looks at one text: is it told as what it is, and is no other text one of the same operation?
func one(t *testing.T, s string) {
	t.Helper()
	o, e := deed.Read(s)
	switch {
	case !isLine(s):
		if e != api.ErrForm || o != (api.Op{}) {
			t.Fatalf("P2.3: Read(%q): %#v, %d, want ErrForm", s, o, e)
		}
	case e != api.OK || !deed.Good(o) || deed.Line(o) != s:
		t.Fatalf("P2.3: Read(%q): %#v, %d, whose line is %q", s, o, e, deed.Line(o))
	}
}

// Each text a byte off a line.
func TestP2_3_OfNoOtherText(t *testing.T) {
	const bytes = " \n\t\x00\"%-.019anlAZ_~\x7f\xff"
	for _, s := range []string{"put a 1", `put n.1 "x%20"`, "del a", "del " + letters[:api.MaxKey], "add a -10", "add k 9223372036854775807", "cas k nil 1", `cas k "" "a"`, "cas nil nil nil"} {
		one(t, s)
		for i := range len(s) + 1 {
			one(t, s[:i])
			one(t, s[i:])
			for j := i; j <= len(s); j++ {
				one(t, s[:i]+s[j:])
			}
			for c := range len(bytes) {
				one(t, s[:i]+bytes[c:c+1]+s[i:])
				if i < len(s) {
					one(t, s[:i]+bytes[c:c+1]+s[i+1:])
				}
			}
		}
	}
}

// All rows of up to five parts.
func TestP2_3_EachRowOfParts(t *testing.T) {
	parts := []string{"", "put", "del", "add", "cas", "a", "A", "nil", "0", "-0", `""`, `"a"`}
	var all func(row []string)
	all = func(row []string) {
		one(t, strings.Join(row, " "))
		if len(row) < 5 {
			for _, p := range parts {
				all(append(row[:len(row):len(row)], p))
			}
		}
	}
	all(nil)
}

func FuzzRead(f *testing.F) {
	for _, o := range goodOps()[:100] {
		f.Add(deed.Line(o))
	}
	f.Fuzz(one)
}
