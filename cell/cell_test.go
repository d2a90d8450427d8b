package cell_test

import (
	"math"
	"regexp"
	"strings"
	"testing"

	"spinney/api"
	"spinney/cell"
)

func num(n int) api.Value     { return api.Value{Kind: api.Int, Num: n} }
func text(s string) api.Value { return api.Value{Kind: api.Text, Text: s} }

// rising: good values, each ahead of the next.
func rising() []api.Value {
	l := []api.Value{{}}
	for _, n := range []int{math.MinInt, math.MinInt + 1, -1 << 32, -10, -9, -1, 0, 1, 9, 10, 1 << 31, math.MaxInt - 1, math.MaxInt} {
		l = append(l, num(n))
	}
	for _, s := range []string{"", "\x00", "\x00\x00", "\x00a", "\n", " ", "!", "\"", "%", "-1", "0", "10", "9", "A", "a", "a\x00", "aa", "ab", "b", "nil", strings.Repeat("z", api.MaxText-1), strings.Repeat("z", api.MaxText), "\x7f", "\x80", "\xc3\xa9", "\xff", "\xff\xff", strings.Repeat("\xff", api.MaxText)} {
		l = append(l, text(s))
	}
	return l
}

// bad: values that aren't good.
func bad() []api.Value {
	return []api.Value{
		{Num: 1}, {Num: math.MinInt}, {Text: "x"}, {Num: 1, Text: "x"},
		{Kind: api.Int, Text: "x"}, {Kind: api.Int, Num: 1, Text: "\x00"},
		{Kind: api.Text, Num: 1}, {Kind: api.Text, Num: -1, Text: "x"},
		text(strings.Repeat("a", api.MaxText+1)), text(strings.Repeat("\xff", 1000)),
		{Kind: 3}, {Kind: 3, Num: 1}, {Kind: -1}, {Kind: -1, Text: "x"}, {Kind: math.MaxInt}, {Kind: math.MinInt},
	}
}

func TestP1_1_Good(t *testing.T) {
	for _, v := range rising() {
		if !cell.Good(v) {
			t.Errorf("Good(%#v): false", v)
		}
	}
	for _, v := range bad() {
		if cell.Good(v) {
			t.Errorf("Good(%#v): true", v)
		}
	}
}

func TestP1_1_Sum(t *testing.T) {
	const most, least = math.MaxInt, math.MinInt
	for _, c := range []struct {
		a, b, want int
		err        api.Errno
	}{
		{2, 3, 5, api.OK}, {2, -3, -1, api.OK}, {-2, -3, -5, api.OK}, {0, 0, 0, api.OK}, {7, -7, 0, api.OK},
		{most, 0, most, api.OK}, {most, -1, most - 1, api.OK}, {most - 1, 1, most, api.OK}, {most, least, -1, api.OK},
		{least, 0, least, api.OK}, {least, 1, least + 1, api.OK}, {least + 1, -1, least, api.OK},
		{least / 2, least / 2, least, api.OK}, {1 << 62, 1<<62 - 1, most, api.OK},
		{most, 1, 0, api.ErrOver}, {most, most, 0, api.ErrOver}, {1 << 62, 1 << 62, 0, api.ErrOver},
		{least, -1, 0, api.ErrOver}, {least, least, 0, api.ErrOver}, {least / 2, least/2 - 1, 0, api.ErrOver},
	} {
		want := api.Value{}
		if c.err == api.OK {
			want = num(c.want)
		}
		for _, p := range [][2]int{{c.a, c.b}, {c.b, c.a}} {
			if v, e := cell.Sum(num(p[0]), num(p[1])); v != want || e != c.err {
				t.Errorf("Sum(%d, %d): %#v, %d", p[0], p[1], v, e)
			}
		}
	}
}

func TestP1_1_SumOfOtherKinds(t *testing.T) {
	for _, x := range []api.Value{{}, text(""), text("1"), {Kind: 3}, {Kind: -1}} {
		for _, y := range []api.Value{num(0), num(1), num(math.MaxInt), {}, text("x")} {
			for _, p := range [][2]api.Value{{x, y}, {y, x}} {
				if v, e := cell.Sum(p[0], p[1]); v != (api.Value{}) || e != api.ErrKind {
					t.Errorf("Sum(%#v, %#v): %#v, %d", p[0], p[1], v, e)
				}
			}
		}
	}
}

func TestP1_1_Text(t *testing.T) {
	for _, c := range []struct {
		v    api.Value
		want string
	}{
		{api.Value{}, "nil"},
		{num(0), "0"}, {num(7), "7"}, {num(-7), "-7"}, {num(100), "100"},
		{num(math.MaxInt), "9223372036854775807"}, {num(math.MinInt), "-9223372036854775808"},
		{text(""), `""`}, {text("a \""), `"a%20%22"`}, {text("nil"), `"nil"`}, {text("-1"), `"-1"`},
		{text("%"), `"%25"`}, {text("%41"), `"%2541"`}, {text("!#$&~"), `"!#$&~"`},
		{text("\x00\n\x1f\x7f\x80\xab\xff"), `"%00%0a%1f%7f%80%ab%ff"`}, {text("é"), `"%c3%a9"`},
		{text(strings.Repeat("a", api.MaxText)), `"` + strings.Repeat("a", api.MaxText) + `"`},
		{text(strings.Repeat("\x00", api.MaxText)), `"` + strings.Repeat("%00", api.MaxText) + `"`},
	} {
		if s := cell.Text(c.v); s != c.want {
			t.Errorf("Text(%#v): %q, want %q", c.v, s, c.want)
		}
	}
}

func TestP1_1_TextOfEachByte(t *testing.T) {
	const plain = "!#$&'()*+,-./0123456789:;<=>?@ABCDEFGHIJKLMNOPQRSTUVWXYZ[\\]^_`abcdefghijklmnopqrstuvwxyz{|}~"
	const digits = "0123456789abcdef"
	for i := range 256 {
		c := byte(i)
		want := `"%` + digits[i/16:i/16+1] + digits[i%16:i%16+1] + `"`
		if strings.IndexByte(plain, c) >= 0 {
			want = `"` + string([]byte{c}) + `"`
		}
		if s := cell.Text(text(string([]byte{c}))); s != want {
			t.Errorf("Text of the byte %d: %q, want %q", i, s, want)
		}
	}
}

func sign(n int) int {
	switch {
	case n < 0:
		return -1
	case n > 0:
		return 1
	}
	return 0
}

func TestP1_2_AnOrder(t *testing.T) {
	l := rising()
	for i, a := range l {
		for j, b := range l {
			if c := cell.Compare(a, b); c != sign(i-j) {
				t.Errorf("Compare(%#v, %#v): %d, want %d", a, b, c, sign(i-j))
			}
		}
	}
}

func TestP1_2_AheadOfWhatIsAhead(t *testing.T) {
	l := rising()
	for i := range 256 { // and all texts of one byte
		l = append(l, text(string([]byte{byte(i)})))
	}
	for _, a := range l {
		for _, b := range l {
			ab := cell.Compare(a, b)
			if ab != -cell.Compare(b, a) || (ab == 0) != (a == b) {
				t.Fatalf("Compare(%#v, %#v): %d, turned round %d", a, b, ab, cell.Compare(b, a))
			}
			if ab >= 0 {
				continue
			}
			for _, c := range l {
				if cell.Compare(b, c) < 0 && cell.Compare(a, c) >= 0 {
					t.Fatalf("%#v, %#v, %#v: the first isn't ahead of the last", a, b, c)
				}
			}
		}
	}
}

func back(t *testing.T, v api.Value) {
	t.Helper()
	s := cell.Text(v)
	if x, e := cell.Read(s); x != v || e != api.OK {
		t.Errorf("Read(%q): %#v, %d, want %#v", s, x, e, v)
	}
}

func TestP1_3_EachTextComesBack(t *testing.T) {
	for _, v := range rising() {
		back(t, v)
	}
	for n := -1100; n <= 1100; n++ {
		back(t, num(n))
	}
	for i := range 63 {
		for d := -1; d <= 1; d++ {
			back(t, num(1<<i+d))
			back(t, num(-1<<i+d))
		}
	}
	for i := range 256 {
		back(t, text(strings.Repeat(string([]byte{byte(i)}), api.MaxText)))
		for j := range 256 {
			back(t, text(string([]byte{byte(i), byte(j)})))
		}
	}
}

func TestP1_3_Refused(t *testing.T) {
	const f, r = api.ErrForm, api.ErrRange
	a := strings.Repeat("a", api.MaxText)
	for _, c := range []struct {
		s    string
		want api.Errno
	}{
		{"", f}, {" ", f}, {"Nil", f}, {"NIL", f}, {"ni", f}, {"nill", f}, {"nil ", f}, {" nil", f}, {"\"nil", f}, {"none", f},
		{"-", f}, {"--1", f}, {"-0", f}, {"-00", f}, {"00", f}, {"01", f}, {"-01", f}, {"+0", f}, {"+1", f}, {"1-", f}, {"1-1", f},
		{" 1", f}, {"1 ", f}, {"1\n", f}, {"1_0", f}, {"0x1", f}, {"1e3", f}, {"1.0", f}, {"1a", f}, {"a", f}, {"1\x00", f}, {"1\xff", f},
		{"\u0661", f}, {"1\u0661", f}, {"\uff11", f},
		{`"`, f}, {`"""`, f}, {`""""`, f}, {`"a`, f}, {`a"`, f}, {`"a"b`, f}, {`"a""b"`, f}, {` "a"`, f}, {`"a" `, f}, {`'a'`, f},
		{`" "`, f}, {"\"\x00\"", f}, {"\"\x7f\"", f}, {"\"\x80\"", f}, {"\"\xff\"", f}, {"\"é\"", f}, {"\"\n\"", f},
		{`"%"`, f}, {`"%%"`, f}, {`"%2"`, f}, {`"%7"`, f}, {`"a%"`, f}, {`"%0A"`, f}, {`"%FF"`, f}, {`"%g0"`, f}, {`"%0g"`, f}, {`"%-1"`, f}, {`"% 1"`, f},
		{`"%41"`, f}, {`"%61"`, f}, {`"%21"`, f}, {`"%7e"`, f}, {`"%23"`, f}, {`"%24"`, f}, {`"%26"`, f}, {`"\n"`, api.OK}, {`"%0a"`, api.OK},
		{"9223372036854775808", r}, {"-9223372036854775809", r}, {"10000000000000000000", r}, {"18446744073709551616", r}, {"-18446744073709551616", r},
		{strings.Repeat("9", 1000), r}, {"-" + strings.Repeat("9", 1000), r},
		{"9223372036854775807", api.OK}, {"-9223372036854775808", api.OK},
		{`"` + a + `"`, api.OK}, {`"` + a + `a"`, r}, {`"` + a + `%00"`, r}, {`"` + strings.Repeat("%00", api.MaxText) + `"`, api.OK}, {`"` + strings.Repeat("%ff", api.MaxText+1) + `"`, r},
		{`"` + strings.Repeat(a, 100) + `"`, r},
	} {
		v, e := cell.Read(c.s)
		if e != c.want {
			t.Errorf("P1.3: Read(%q): %d, want %d", c.s, e, c.want)
		}
		if e != api.OK && v != (api.Value{}) {
			t.Errorf("R3: Read(%q): %#v beside %d", c.s, v, e)
		}
	}
}

// formed: the texts of values, short or long ones, told without the package.
var formed = regexp.MustCompile(`\A(nil|0|-?[1-9][0-9]*|"([!#$&-~]|%([01][0-9a-f]|2[025]|7f|[89a-f][0-9a-f]))*")\z`)

// one looks at one text: is it told as what it is, and is no other text one of the same value?
func one(t *testing.T, s string) {
	t.Helper()
	v, e := cell.Read(s)
	switch {
	case e == api.OK:
		if x := cell.Text(v); x != s || !cell.Good(v) {
			t.Fatalf("P1.3: Read(%q): %#v, whose text is %q", s, v, x)
		}
	case v != (api.Value{}):
		t.Fatalf("R3: Read(%q): %#v beside %d", s, v, e)
	}
	if formed.MatchString(s) == (e == api.ErrForm) || e != api.OK && e != api.ErrForm && e != api.ErrRange {
		t.Fatalf("P1.3: Read(%q): %d", s, e)
	}
}

func TestP1_3_OfNoOtherText(t *testing.T) {
	const letters = "nil-+019\"%2af7AF ~\x00\x7f\xff"
	var all func(s string, more int)
	all = func(s string, more int) {
		one(t, s)
		one(t, `"`+s+`"`)
		if more > 0 {
			for i := range len(letters) {
				all(s+letters[i:i+1], more-1)
			}
		}
	}
	all("", 4)
}

func TestP1_3_EachPairOfBytes(t *testing.T) {
	for i := range 256 {
		for j := range 256 {
			pair := string([]byte{byte(i), byte(j)})
			for _, s := range []string{pair, "-" + pair, "1" + pair, pair + "1", `"` + pair + `"`, `"%` + pair + `"`} {
				one(t, s)
			}
		}
	}
}

func FuzzRead(f *testing.F) {
	for _, v := range rising() {
		f.Add(cell.Text(v))
	}
	f.Fuzz(one)
}
