package reach_test

import (
	"slices"
	"strings"
	"testing"

	"spinney/api"
	"spinney/reach"
)

// told: a list of prefixes, with blanks between, * in the place of the empty one.
func told(s string) []string {
	l := strings.Fields(s)
	for i, p := range l {
		if p == "*" {
			l[i] = ""
		}
	}
	return l
}

func of(s string) api.Reach { return told(s) }

// alike tells whether two reaches are the same; a nil one and an empty one are.
func alike(a, b api.Reach) bool { return slices.Equal(a, b) }

// sized: a key of n bytes.
func sized(n int) string { return strings.Repeat("z", n) }

// inKeys: all bytes that a key may have.
const inKeys = "abcdefghijklmnopqrstuvwxyz0123456789.-"

// notPrefixes: texts that are neither empty nor keys.
func notPrefixes() []string {
	l := []string{sized(api.MaxKey + 1), sized(1 << 16), "*", "!", ",", "a,b", " ", "a ", " a", "A", "aB", "a_b", "a/b", "a*", "\x00", "a\x00", "\xff", "\u00e9", "\u0430", "a\n"}
	for c := range 256 {
		if strings.IndexByte(inKeys, byte(c)) < 0 {
			b := string([]byte{byte(c)})
			l = append(l, b, "a"+b, b+"a", sized(api.MaxKey-1)+b)
		}
	}
	return l
}

// prefix tells, without the package, whether a text may stand in a reach.
func prefix(s string) bool {
	return len(s) <= 20 && strings.Trim(s, inKeys) == "" && strings.IndexFunc(s, func(r rune) bool { return !strings.ContainsRune(inKeys, r) }) < 0
}

// has tells, by the chapter's words alone, whether one of a list begins a text.
func has(l []string, key string) bool {
	for _, p := range l {
		if len(p) <= len(key) && key[:len(p)] == p {
			return true
		}
	}
	return false
}

// good tells, by the chapter's words alone, whether a list is a good reach.
func good(l []string) bool {
	for i, p := range l {
		if !prefix(p) || i > 0 && l[i-1] >= p {
			return false
		}
		for j, x := range l {
			if i != j && has([]string{x}, p) {
				return false
			}
		}
	}
	return len(l) <= 6
}

// reduced: those of a list that have no other one as a beginning, rising, each once, by the chapter's words alone.
func reduced(l []string) []string {
	var left []string
	for _, p := range l {
		longer := func(x string) bool { return x != p && has([]string{x}, p) }
		if !slices.ContainsFunc(l, longer) && !slices.Contains(left, p) {
			left = append(left, p)
		}
	}
	slices.Sort(left)
	return left
}

// lists calls look with each list of at most n of these, in any order, doubles among them.
func lists(pool []string, n int, look func(l []string)) {
	var all func(l []string)
	all = func(l []string) {
		look(l)
		if len(l) < n {
			for _, p := range pool {
				all(append(l[:len(l):len(l)], p))
			}
		}
	}
	all(nil)
}

// pool: prefixes many of which begin others.
func pool() []string { return told("* - a a. a.b a.x aa ab b b.a") }

// keys: all keys of up to four of these bytes: with z begins none of the pool's prefixes but the empty one.
func keys() []string {
	var l []string
	last := []string{""}
	for range 4 {
		var next []string
		for _, s := range last {
			for _, c := range "ab.x-z" {
				next = append(next, s+string(c))
			}
		}
		l = append(l, next...)
		last = next
	}
	return l
}

// reaches: all good ones of the pool with at most n prefixes.
func reaches(n int) []api.Reach {
	var all []api.Reach
	lists(pool(), n, func(l []string) {
		if good(l) {
			all = append(all, slices.Clone(l))
		}
	})
	return all
}

func TestP4_1_Good(t *testing.T) {
	for _, s := range []string{
		"", "*", "a", "b", "-", ".", "0", "a.x", "a b", "a. b.-", "- . 0 a", "a.x b", "a b c d e f", "aa ab ac ad ae af", "nil", "aa b", "a- a. a0 aa az",
		sized(20), sized(19) + "a " + sized(20), sized(19),
	} {
		l := told(s)
		slices.Sort(l)
		if !reach.Good(l) {
			t.Errorf("Good(%q): false", l)
		}
	}
	for _, s := range []string{
		"* *", "* a", "a *", "b a", "a a", "a a b", "a b b", "b a.x a", "a a.x", "a.x a", "a b a.x", "a a.x b", "a aa", "b c a", "a c b",
		"a b c d e f g", "* a b c d e f", "f e d c b a", "a b c d e f f", "a b c d e f fa", sized(19) + " " + sized(20), sized(20) + " " + sized(20), sized(20) + " " + sized(19) + "a",
		sized(21), "a " + sized(21), "A", "a B", "a *b", "!", "a !", "a,b", ",",
	} {
		if l := told(s); reach.Good(l) {
			t.Errorf("Good(%q): true", l)
		}
	}
	for _, s := range notPrefixes() {
		for _, l := range [][]string{{s}, {"", s}, {s, s}, {"a", s}, {s, "zz"}, {s, ""}, {"a", "b", "c", "d", "e", s}, {"a", "b", "c", "d", "e", "f", s}} {
			if reach.Good(l) {
				t.Errorf("Good(%.40q): true", l)
			}
		}
	}
}

func TestP4_1_GoodOfEachList(t *testing.T) {
	lists(pool(), 4, func(l []string) {
		if reach.Good(l) != good(l) {
			t.Fatalf("Good(%q): %v", l, !good(l))
		}
	})
}

// As many as there may be, and one more, for all that is told of how many.
func TestP4_1_SixAndSeven(t *testing.T) {
	seven := told("a b c d e f g")
	for n := range 8 {
		l := seven[:n]
		if reach.Good(l) != (n <= 6) {
			t.Errorf("Good of %d prefixes: %v", n, n > 6)
		}
		r, e := reach.Of(l)
		if n <= 6 && (e != api.OK || !alike(r, l)) || n > 6 && (e != api.ErrFull || len(r) != 0) {
			t.Errorf("Of %d prefixes: %q, %d", n, r, e)
		}
		if n == 7 {
			if _, e := reach.Read(strings.Join(l, ",")); e != api.ErrForm {
				t.Errorf("Read of %d prefixes: %d", n, e)
			}
		}
		for i := max(0, n-6); i <= min(n, 6); i++ {
			r, e := reach.Join(l[:i], l[i:])
			if n <= 6 && (e != api.OK || !alike(r, l)) || n > 6 && (e != api.ErrFull || len(r) != 0) {
				t.Errorf("Join of %d and %d prefixes: %q, %d", i, n-i, r, e)
			}
		}
	}
}

func TestP4_1_TwentyBytes(t *testing.T) {
	for n := range 24 {
		s := sized(n)
		fine := n <= 20
		if reach.Good(api.Reach{s}) != fine {
			t.Errorf("Good of a prefix of %d bytes: %v", n, !fine)
		}
		if r, e := reach.Of([]string{s}); (e == api.OK) != fine || !fine && (e != api.ErrForm || len(r) != 0) || fine && !alike(r, api.Reach{s}) {
			t.Errorf("Of a prefix of %d bytes: %q, %d", n, r, e)
		}
		if r, e := reach.Read(s); n > 0 && ((e == api.OK) != fine || fine && !alike(r, api.Reach{s})) {
			t.Errorf("Read of a prefix of %d bytes: %q, %d", n, r, e)
		}
		if fine && (!reach.Has(api.Reach{s}, sized(20)) || n > 0 && reach.Has(api.Reach{s}, sized(n-1)) || !reach.Has(api.Reach{s}, s)) {
			t.Errorf("Has of a prefix of %d bytes", n)
		}
	}
}

func TestP4_1_Of(t *testing.T) {
	for _, c := range []struct{ l, want string }{
		{"", ""}, {"*", "*"}, {"a", "a"}, {"b a.x a", "a b"}, {"a.x b a", "a b"}, {"a a", "a"}, {"a a a b b", "a b"}, {"* a b", "*"}, {"a b *", "*"}, {"* *", "*"}, {"b a", "a b"},
		{"a.x a.y a.z a", "a"}, {"a.x a.y a.z", "a.x a.y a.z"}, {"a.x a.x.y a.x.y.z", "a.x"}, {"a.x.y.z a.x.y a.x", "a.x"}, {"a a.x b a.y", "a b"}, {"aa a.a a-a a0a a", "a"}, {"ab a- a. a0", "a- a. a0 ab"}, {"a.x a", "a"}, {"z . 0 - a", "- . 0 a z"},
		{"a b c d e f", "a b c d e f"}, {"f e d c b a", "a b c d e f"}, {"a b c d e f f e d c b a", "a b c d e f"}, {"a b c d e f a.x b.x", "a b c d e f"}, {"g f e d c b a *", "*"}, {"a.1 a.2 a.3 a.4 a.5 a.6 a.7 a.8 a", "a"}, {sized(20) + " " + sized(19), sized(19)},
	} {
		if r, e := reach.Of(told(c.l)); e != api.OK || !alike(r, of(c.want)) {
			t.Errorf("Of(%s): %q, %d, want %s", c.l, r, e, c.want)
		}
	}
	for _, s := range []string{"a b c d e f g", "g f e d c b a", "a b c d e f f.x g", "a.1 a.2 a.3 a.4 a.5 a.6 a.7", "a a.1 b c d e f g a", strings.Join(strings.Split(inKeys, ""), " ")} {
		if r, e := reach.Of(told(s)); e != api.ErrFull || len(r) != 0 {
			t.Errorf("Of(%s): %q, %d, want ErrFull", s, r, e)
		}
	}
	for _, s := range notPrefixes() {
		for _, l := range [][]string{{s}, {"", s}, {s, ""}, {"a", s}, {s, "a"}, {s, s}, {"a", "b", "c", "d", "e", "f", s}} {
			if r, e := reach.Of(l); e != api.ErrForm || len(r) != 0 {
				t.Errorf("Of(%.40q): %q, %d, want ErrForm", l, r, e)
			}
		}
	}
}

func TestP4_1_OfEachList(t *testing.T) {
	lists(pool(), 4, func(l []string) {
		if r, e := reach.Of(l); e != api.OK || !alike(r, reduced(l)) || !reach.Good(r) {
			t.Fatalf("Of(%q): %q, %d, want %q", l, r, e, reduced(l))
		}
	})
}

func TestP4_1_Has(t *testing.T) {
	for _, c := range []struct {
		r, key string
		want   bool
	}{
		{"", "a", false}, {"", "", false}, {"", "*", false}, {"*", "a", true}, {"*", sized(20), true}, {"*", "-", true}, {"a", "a", true}, {"a", "a.x", true}, {"a", "aa", true}, {"a", "b", false}, {"a", "ba", false}, {"a", "b.a", false},
		{"a.x", "a", false}, {"a.x", "a.", false}, {"a.x", "a.x", true}, {"a.x", "a.xy", true}, {"a.x", "a.y", false}, {"a.x", "a0x", false}, {"a c", "b", false}, {"a c", "c.", true}, {"a b c d e f", "f.1", true}, {"a b c d e f", "g", false}, {sized(20), sized(20), true}, {sized(20), sized(19), false},
		// of texts that are no keys: whether one of the prefixes begins them
		{"*", "", true}, {"*", "\xff", true}, {"*", sized(1 << 10), true}, {"a", "", false}, {"a", "a B", true}, {"a", "A", false}, {"a", "a\x00", true}, {"a", " a", false}, {"a", "\x00a", false}, {sized(20), sized(21), true}, {sized(20), sized(1 << 10), true}, {"a b", "b*", true}, {"a b", "*", false}, {"a b", "!", false}, {"a.", "a,", false},
	} {
		if reach.Has(of(c.r), c.key) != c.want {
			t.Errorf("Has(%s, %.30q): %v", c.r, c.key, !c.want)
		}
	}
}

func TestP4_1_Covers(t *testing.T) {
	for _, c := range []struct {
		a, b string
		want bool
	}{
		{"", "", true}, {"a", "", true}, {"*", "", true}, {"", "a", false}, {"", "*", false}, {"*", "*", true}, {"*", "a b c d e f", true}, {"a", "*", false}, {"a b c d e f", "*", false}, {"a", "a", true}, {"a", "b", false}, {"a", "a.x", true}, {"a.x", "a", false}, {"a b", "a.x", true}, {"a b", "a.x b.y", true}, {"a b", "a.x c", false}, {"a b", "c a.x", false},
		{"a.x b", "a", false}, {"a.x a.y", "a", false}, {"a.x a.y", "a.x.1 a.y.1", true}, {"a.x", "a.x a.y", false}, {"a.x a.y", "a.y", true}, {"a b c d e f", "f", true}, {"a b c d e f", "a.1 b.1 c.1 d.1 e.1 f.1", true}, {sized(19), sized(20), true}, {sized(20), sized(19), false},
	} {
		if reach.Covers(of(c.a), of(c.b)) != c.want {
			t.Errorf("Covers(%s, %s): %v", c.a, c.b, !c.want)
		}
	}
}

func TestP4_1_Both(t *testing.T) {
	for _, c := range []struct{ a, b, want string }{
		{"", "", ""}, {"", "*", ""}, {"", "a", ""}, {"*", "*", "*"}, {"*", "a", "a"}, {"*", "a b c d e f", "a b c d e f"}, {"a", "a", "a"}, {"a", "b", ""}, {"a", "a.x", "a.x"}, {"a", "a.x c", "a.x"}, {"a b", "b c", "b"}, {"a.x b", "a b.x", "a.x b.x"}, {"a.x a.y", "a", "a.x a.y"}, {"a.x a.y", "a.y a.z", "a.y"}, {"b", "a.x b.y b.z", "b.y b.z"},
		{sized(19), sized(20), sized(20)}, {"a.x.1 b", "a.x c", "a.x.1"}, {"a b c d e f", "a b c d e f", "a b c d e f"}, {"a b c", "a.1 b.1 c.1 d.1", "a.1 b.1 c.1"},
		// more than six
		{"a b.1 b.2 b.3", "a.1 a.2 a.3 a.4 b", "a.1 a.2 a.3 a.4 b.1 b.2 b.3"}, {"a b.1 b.2 b.3 b.4 b.5", "a.1 a.2 a.3 a.4 a.5 b", "a.1 a.2 a.3 a.4 a.5 b.1 b.2 b.3 b.4 b.5"},
	} {
		for _, p := range [][2]string{{c.a, c.b}, {c.b, c.a}} {
			if r := reach.Both(of(p[0]), of(p[1])); !alike(r, of(c.want)) {
				t.Errorf("Both(%s, %s): %q, want %s", p[0], p[1], r, c.want)
			}
		}
	}
}

// What Both answers may have more prefixes than a good reach; Has and Covers take it.
func TestP4_1_BothOfMoreThanSix(t *testing.T) {
	a, b := of("a b.1 b.2 b.3 b.4 b.5"), of("a.1 a.2 a.3 a.4 a.5 b")
	r := reach.Both(a, b)
	if len(r) != 10 || reach.Good(r) {
		t.Fatalf("Both(%q, %q): %q, Good %v", a, b, r, reach.Good(r))
	}
	for i, p := range r {
		if !reach.Has(r, p) || !reach.Has(r, p+".x") || !reach.Covers(r, api.Reach{p + ".x"}) || !reach.Covers(r, r[i:]) || reach.Covers(r[:i], r) {
			t.Errorf("of %q: not of %s, the prefix %d", r, p, i)
		}
	}
	for _, k := range []string{"a", "a.", "b", "b.", "a.6", "b.6", "ab.1", "c", "", "A.1"} {
		if reach.Has(r, k) {
			t.Errorf("Has(%q, %q): true", r, k)
		}
	}
	if !reach.Covers(a, r) || !reach.Covers(b, r) || !reach.Covers(r, r) || !reach.Covers(api.Reach{""}, r) || reach.Covers(r, a) || reach.Covers(r, b) || reach.Covers(r, api.Reach{""}) || reach.Covers(nil, r) || !reach.Covers(r, nil) {
		t.Errorf("Covers of %q", r)
	}
}

func TestP4_1_Join(t *testing.T) {
	for _, c := range []struct{ a, b, want string }{
		{"", "", ""}, {"", "*", "*"}, {"", "a", "a"}, {"*", "*", "*"}, {"*", "a b c d e f", "*"}, {"a", "a", "a"}, {"a", "b", "a b"}, {"a", "a.x", "a"}, {"a", "a.x c", "a c"}, {"a b", "b c", "a b c"}, {"a.x b", "a b.x", "a b"}, {"a.x a.y", "a", "a"}, {"a.x c", "a.y b", "a.x a.y b c"}, {"a b c", "d e f", "a b c d e f"}, {"a c e", "b d f", "a b c d e f"},
		{"a b c d e f", "a b c d e f", "a b c d e f"}, {"a b c d e f", "a.1 b.1 c.1 d.1 e.1 f.1", "a b c d e f"}, {"a.1 a.2 a.3 a.4 a.5 a.6", "a b c d e f", "a b c d e f"}, {sized(19), sized(20), sized(19)},
	} {
		for _, p := range [][2]string{{c.a, c.b}, {c.b, c.a}} {
			if r, e := reach.Join(of(p[0]), of(p[1])); e != api.OK || !alike(r, of(c.want)) {
				t.Errorf("Join(%s, %s): %q, %d, want %s", p[0], p[1], r, e, c.want)
			}
		}
	}
	for _, c := range [][2]string{{"a b c d e f", "g"}, {"a", "b c d e f g"}, {"a b c d", "e f g h"}, {"a b c d e f", "a.1 b.1 c.1 d.1 e.1 g"}, {"a b c d e f", "u v w x y z"}} {
		for _, p := range [][2]string{{c[0], c[1]}, {c[1], c[0]}} {
			if r, e := reach.Join(of(p[0]), of(p[1])); e != api.ErrFull || len(r) != 0 {
				t.Errorf("Join(%s, %s): %q, %d, want ErrFull", p[0], p[1], r, e)
			}
		}
	}
}

// puts: a write of each key, each of another id.
func puts(keys []string) []api.Write {
	var l []api.Write
	for i, k := range keys {
		l = append(l, api.Write{Id: api.Id{Dev: 1 + i%11, Seq: 1 + i/11}, Op: api.Op{Kind: api.Put, Key: k, A: api.Value{Kind: api.Int, Num: i}}})
	}
	return l
}

func TestP4_1_Pick(t *testing.T) {
	for _, c := range []struct {
		r, keys string
		want    []int
	}{
		{"", "", nil}, {"", "a b", nil}, {"*", "", nil}, {"*", "b a", []int{0, 1}}, {"a", "", nil}, {"a", "b", nil}, {"a", "b a.x c a aa ba a", []int{1, 3, 4, 6}}, {"a.x", "a.x a a.y a.xy a.", []int{0, 3}}, {"a c", "c b a b c.1", []int{0, 2, 4}}, {sized(20), sized(19) + " " + sized(20), []int{1}}, {"a b c d e f", "g f e d c b a g", []int{1, 2, 3, 4, 5, 6}},
	} {
		l := puts(strings.Fields(c.keys))
		var want []api.Write
		for _, i := range c.want {
			want = append(want, l[i])
		}
		if p := reach.Pick(of(c.r), l); !slices.Equal(p, want) {
			t.Errorf("Pick(%s, %s): %v", c.r, c.keys, p)
		}
	}
	// Whole writes, of each kind; doubles as often as they are there.
	l := []api.Write{
		{Id: api.Id{Dev: 2, Seq: 1}, Op: api.Op{Kind: api.Cas, Key: "a", A: api.Value{Kind: api.Text, Text: "x"}, B: api.Value{Kind: api.Int, Num: -1}}},
		{Id: api.Id{Dev: 1, Seq: 7}, Op: api.Op{Kind: api.Del, Key: "a.x"}},
		{Id: api.Id{Dev: 11, Seq: 40}, Op: api.Op{Kind: api.Add, Key: "aa", A: api.Value{Kind: api.Int, Num: 5}}},
	}
	l = append(l, l...)
	if p := reach.Pick(of("a"), l); !slices.Equal(p, l) {
		t.Errorf("Pick(a, %v): %v", l, p)
	}
}

func TestP4_1_Text(t *testing.T) {
	for _, c := range []struct{ r, want string }{{"", "!"}, {"*", "*"}, {"a", "a"}, {"a b", "a,b"}, {"- . 0", "-,.,0"}, {"a.x b-1 c", "a.x,b-1,c"}, {"a b c d e f", "a,b,c,d,e,f"}, {sized(20), sized(20)}} {
		r := of(c.r)
		if s := reach.Text(r); s != c.want {
			t.Errorf("Text(%q): %q, want %q", r, s, c.want)
		}
		if x, e := reach.Read(c.want); e != api.OK || !alike(x, r) {
			t.Errorf("Read(%q): %q, %d, want %q", c.want, x, e, r)
		}
	}
}

func TestP4_1_TextAndBack(t *testing.T) {
	texts := map[string]api.Reach{}
	for _, r := range reaches(4) {
		s := reach.Text(r)
		if x, e := reach.Read(s); e != api.OK || !alike(x, r) {
			t.Errorf("Read(%q): %q, %d, want %q", s, x, e, r)
		}
		if x, has := texts[s]; has {
			t.Errorf("the text %q is that of %q and of %q", s, x, r)
		}
		texts[s] = r
	}
}

// text: a good reach's, told without the package; "" of another one.
func text(l []string) string {
	if !good(l) {
		return ""
	}
	switch {
	case len(l) == 0:
		return "!"
	case l[0] == "":
		return "*"
	}
	return strings.Join(l, ",")
}

// one looks at one text: is it told as what it is?
func one(t *testing.T, s string) {
	t.Helper()
	l := strings.Split(s, ",")
	switch s {
	case "!":
		l = nil
	case "*":
		l = []string{""}
	}
	r, e := reach.Read(s)
	switch {
	case s == "" || text(l) != s:
		if e != api.ErrForm || len(r) != 0 {
			t.Fatalf("Read(%.60q): %q, %d, want ErrForm", s, r, e)
		}
	case e != api.OK || !alike(r, l) || reach.Text(r) != s:
		t.Fatalf("Read(%q): %q, %d", s, r, e)
	}
}

func TestP4_1_Refused(t *testing.T) {
	for _, s := range []string{
		"", ",", ",,", "a,", ",a", "a,,b", "a,b,", ",,a", " ", "a b", "a, b", " a", "a ", "a;b", "a\n", "\n", "a\x00", "A", "a,B", "a_b", "\u00e9", "\xff",
		"b,a", "a,a", "a,a.x", "a.x,a", "a,b,a.x", "a,b,b", "b,c,a", "a.x,a.x", "*,a", "a,*", "*,*", "**", "*a", "a*", "!,a", "a,!", "!!", "!,!", "!*", "*!", "*,", ",*", "!,", ",!", " *", "* ", "! ", " !", "\"\"", "\"a\"", "nil,a",
		"a,b,c,d,e,f,g", "g,f,e,d,c,b,a", "a,b,c,d,e,f,", ",a,b,c,d,e", "a,b,c,d,e,f,f", "a,b,c,d,e,f,f.x", "a,b,c,d,e,f,g,h", sized(21), "a," + sized(21), sized(20) + "," + sized(20), sized(19) + "," + sized(20),
		strings.Repeat("a", 1<<16), strings.Repeat(",", 1<<16), strings.Repeat("a,", 1<<16) + "a", strings.Repeat("*", 1<<16), strings.Repeat("!", 1<<16),
	} {
		if r, e := reach.Read(s); e != api.ErrForm || len(r) != 0 {
			t.Errorf("Read(%.60q): %q, %d, want ErrForm", s, r, e)
		}
	}
	for _, s := range notPrefixes() {
		if s != "*" && s != "!" && s != "a,b" {
			one(t, s)
		}
		one(t, "a,"+s)
		one(t, s+",z")
		one(t, "*"+s)
		one(t, "!"+s)
	}
}

// All texts of up to five of these bytes.
func TestP4_1_ReadOfEachShortText(t *testing.T) {
	const bytes = "ab.-0,*! A"
	var all func(s string)
	all = func(s string) {
		one(t, s)
		if len(s) < 5 {
			for i := range len(bytes) {
				all(s + bytes[i:i+1])
			}
		}
	}
	all("")
}

// Each text a byte off a reach's.
func TestP4_1_ReadOfEachByte(t *testing.T) {
	for _, s := range []string{"*", "!", "a", "a,b", "a.x,b,c-1", "a,b,c,d,e,f", sized(20)} {
		for i := range len(s) + 1 {
			one(t, s[:i])
			one(t, s[i:])
			for c := range 256 {
				b := string([]byte{byte(c)})
				one(t, s[:i]+b+s[i:])
				if i < len(s) {
					one(t, s[:i]+b+s[i+1:])
				}
			}
		}
	}
}

func FuzzRead(f *testing.F) {
	for _, s := range []string{"*", "!", "a", "a,b", "b,a", "a,a.x", "a,b,c,d,e,f", "a,b,c,d,e,f,g", ""} {
		f.Add(s)
	}
	f.Fuzz(one)
}

// A reach has a key just if what it is made of has.
func TestP4_2_OfHasJustWhatItIsMadeOf(t *testing.T) {
	all := append(keys(), "", "A", "a A", "b,")
	lists(pool(), 3, func(l []string) {
		r, e := reach.Of(l)
		for _, k := range all {
			if e != api.OK || reach.Has(r, k) != has(l, k) {
				t.Fatalf("Of(%q): %q, %d; Has(%q): %v", l, r, e, k, !has(l, k))
			}
		}
	})
}

// hasAll: of each key of a list whether a reach has it, by the chapter's words alone.
func hasAll(l []string, keys []string) []bool {
	bits := make([]bool, len(keys))
	for i, k := range keys {
		bits[i] = has(l, k)
	}
	return bits
}

func TestP4_2_BothJoinCovers(t *testing.T) {
	all, few := keys(), reaches(3)
	bits := make([][]bool, len(few))
	for i, r := range few {
		bits[i] = hasAll(r, all)
	}
	for i, a := range few {
		for j, b := range few {
			both, join := reach.Both(a, b), slices.Concat(a, b)
			r, e := reach.Join(a, b)
			if e != api.OK {
				t.Fatalf("Join(%q, %q): %d", a, b, e)
			}
			covers := true
			for k, key := range all {
				if reach.Has(both, key) != (bits[i][k] && bits[j][k]) || reach.Has(r, key) != (bits[i][k] || bits[j][k]) {
					t.Fatalf("of %q and %q: Both %q, Join %q: otherwise of %q", a, b, both, r, key)
				}
				covers = covers && (bits[i][k] || !bits[j][k])
			}
			if reach.Covers(a, b) != covers {
				t.Fatalf("Covers(%q, %q): %v", a, b, !covers)
			}
			if !alike(both, reduced(both)) || !alike(r, reduced(join)) {
				t.Fatalf("of %q and %q: Both %q, Join %q: not reduced", a, b, both, r)
			}
			if !reach.Covers(a, both) || !reach.Covers(b, both) || !reach.Covers(r, a) || !reach.Covers(r, b) {
				t.Fatalf("of %q and %q: Both %q, Join %q: it covers not", a, b, both, r)
			}
		}
	}
}

// The same of reaches that are as great as may be.
func TestP4_2_GreatReaches(t *testing.T) {
	great := []api.Reach{of("*"), of("a b c d e f"), of("a.1 a.2 a.3 a.4 a.5 b"), of("a b.1 b.2 b.3 b.4 b.5"), of("a.1 b.1 c.1 d.1 e.1 f.1"), of("u v w x y z"), of(""), of("a.1.x a.2 b.1.y b.3 d " + sized(20))}
	var keys []string
	for _, r := range great {
		for _, p := range r {
			for _, s := range []string{p, p + "z", p + ".1", p[:len(p)/2], p + "-"} {
				if s != "" {
					keys = append(keys, s)
				}
			}
		}
	}
	for _, a := range great {
		for _, b := range great {
			both := reach.Both(a, b)
			join, e := reach.Join(a, b)
			if (e == api.ErrFull) != (len(reduced(slices.Concat(a, b))) > 6) {
				t.Errorf("Join(%q, %q): %d", a, b, e)
			}
			for _, k := range keys {
				if reach.Has(both, k) != (has(a, k) && has(b, k)) || e == api.OK && reach.Has(join, k) != (has(a, k) || has(b, k)) {
					t.Errorf("of %q and %q: Both %q, Join %q: otherwise of %q", a, b, both, join, k)
				}
			}
		}
	}
}

// Pick's writes are just those whose key the reach has.
func TestP4_2_PickedIsHad(t *testing.T) {
	l := puts(keys())
	for _, r := range reaches(2) {
		var want []api.Write
		for _, w := range l {
			if has(r, w.Op.Key) {
				want = append(want, w)
			}
		}
		if p := reach.Pick(r, l); !slices.Equal(p, want) {
			t.Fatalf("Pick(%q): %d writes, want %d", r, len(p), len(want))
		}
	}
}
