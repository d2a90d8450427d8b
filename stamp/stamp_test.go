package stamp_test

import (
	"math"
	"regexp"
	"slices"
	"strconv"
	"strings"
	"testing"

	"spinney/api"
	"spinney/stamp"
)

const least, greatest = math.MinInt, math.MaxInt

func num(n int) api.Value     { return api.Value{Kind: api.Int, Num: n} }
func text(s string) api.Value { return api.Value{Kind: api.Text, Text: s} }

func put(k string, a api.Value) api.Op { return api.Op{Kind: api.Put, Key: k, A: a} }

// told: an id's numbers, told without the package.
func told(t *testing.T, s string) api.Id {
	t.Helper()
	dev, seq, _ := strings.Cut(s, "/")
	d, errDev := strconv.Atoi(dev)
	n, errSeq := strconv.Atoi(seq)
	if errDev != nil || errSeq != nil {
		t.Fatalf("%q tells no id", s)
	}
	return api.Id{Dev: d, Seq: n}
}

// list: writes of the ids that s tells, with blanks between; each with another operation.
func list(t *testing.T, s string) []api.Write {
	t.Helper()
	var l []api.Write
	for i, p := range strings.Fields(s) {
		l = append(l, api.Write{Id: told(t, p), Op: put("k", num(i))})
	}
	return l
}

// line: the ids of a list, with blanks between.
func line(l []api.Write) string {
	var parts []string
	for _, w := range l {
		parts = append(parts, strconv.Itoa(w.Id.Dev)+"/"+strconv.Itoa(w.Id.Seq))
	}
	return strings.Join(parts, " ")
}

// goodIds: all of them, in order.
func goodIds() []api.Id {
	var l []api.Id
	for dev := 1; dev <= 11; dev++ {
		for seq := 1; seq <= 40; seq++ {
			l = append(l, api.Id{Dev: dev, Seq: seq})
		}
	}
	return l
}

func badIds() []api.Id {
	var l []api.Id
	for _, n := range []int{least, -1 << 32, -11, -1, 0, 41, 1<<32 + 1, greatest} {
		for _, fine := range []int{1, 3, 11} {
			l = append(l, api.Id{Dev: n, Seq: fine}, api.Id{Dev: fine, Seq: n})
		}
		l = append(l, api.Id{Dev: n, Seq: n}, api.Id{Dev: n, Seq: 40}, api.Id{Dev: 12, Seq: n})
	}
	return append(l, api.Id{Dev: 12, Seq: 1}, api.Id{Dev: 12, Seq: 40}, api.Id{Dev: 40, Seq: 1}, api.Id{Dev: 13, Seq: 2})
}

func goodOps() []api.Op {
	return []api.Op{
		put("a", num(0)), put("n.1", text("")), put(strings.Repeat("z", api.MaxKey), text(strings.Repeat("\xff", api.MaxText))),
		{Kind: api.Del, Key: "-"}, {Kind: api.Add, Key: "k", A: num(least)}, {Kind: api.Cas, Key: "k"}, {Kind: api.Cas, Key: "k", A: text("x"), B: num(greatest)},
	}
}

func badOps() []api.Op {
	return []api.Op{
		{}, put("", num(1)), put("A", num(1)), put(strings.Repeat("z", api.MaxKey+1), num(1)), put("k", api.Value{}), put("k", text(strings.Repeat("a", api.MaxText+1))), {Kind: api.Put, Key: "k", A: num(1), B: num(1)},
		{Kind: api.Del, Key: "k", A: num(1)}, {Kind: api.Add, Key: "k"}, {Kind: api.Add, Key: "k", A: text("1")}, {Kind: api.Cas, Key: "k", A: api.Value{Kind: 3}}, {Kind: 5, Key: "k"}, {Kind: -1, Key: "k", A: num(1)}, {Kind: greatest},
	}
}

func TestP3_1_Good(t *testing.T) {
	for _, id := range goodIds() {
		for _, o := range goodOps() {
			if w := (api.Write{Id: id, Op: o}); !stamp.Good(w) {
				t.Errorf("Good(%#v): false", w)
			}
		}
		for _, o := range badOps() {
			if w := (api.Write{Id: id, Op: o}); stamp.Good(w) {
				t.Errorf("Good(%#v): true", w)
			}
		}
	}
	for _, id := range badIds() {
		for _, o := range append(goodOps(), badOps()...) {
			if w := (api.Write{Id: id, Op: o}); stamp.Good(w) {
				t.Errorf("Good(%#v): true", w)
			}
		}
	}
}

func TestP3_1_GoodAtTheLimits(t *testing.T) {
	for dev := -3; dev < 20; dev++ {
		for seq := -3; seq < 50; seq++ {
			want := dev >= 1 && dev <= 11 && seq >= 1 && seq <= 40
			if stamp.Good(api.Write{Id: api.Id{Dev: dev, Seq: seq}, Op: put("k", num(1))}) != want {
				t.Errorf("Good of a write of %d/%d: %v", dev, seq, !want)
			}
		}
	}
}

func TestP3_1_Compare(t *testing.T) {
	var l []api.Id
	for _, s := range strings.Fields("-9223372036854775808/1 -1/40 0/0 1/-9223372036854775808 1/0 1/1 1/2 1/9 1/10 1/40 1/41 1/9223372036854775807 2/-1 2/1 2/2 2/40 3/1 10/1 10/2 11/1 11/39 11/40 12/0 9223372036854775807/0") {
		l = append(l, told(t, s))
	}
	for i, a := range l {
		for j, b := range l {
			want := 0
			if i < j {
				want = -1
			} else if i > j {
				want = 1
			}
			if c := stamp.Compare(a, b); c != want {
				t.Errorf("Compare(%v, %v): %d, want %d", a, b, c, want)
			}
		}
	}
	if ids := goodIds(); !slices.IsSortedFunc(ids, stamp.Compare) || stamp.Compare(ids[0], ids[439]) != -1 || stamp.Compare(ids[439], ids[0]) != 1 {
		t.Error("the good ids aren't in order")
	}
}

func TestP3_1_TextAndBack(t *testing.T) {
	for s, id := range map[string]api.Id{"1/1": {Dev: 1, Seq: 1}, "3/17": {Dev: 3, Seq: 17}, "11/40": {Dev: 11, Seq: 40}, "1/40": {Dev: 1, Seq: 40}, "11/1": {Dev: 11, Seq: 1}, "10/10": {Dev: 10, Seq: 10}, "1/11": {Dev: 1, Seq: 11}} {
		if x := stamp.Text(id); x != s {
			t.Errorf("Text(%v): %q, want %q", id, x, s)
		}
	}
	for _, id := range goodIds() {
		s := stamp.Text(id)
		if s != strconv.Itoa(id.Dev)+"/"+strconv.Itoa(id.Seq) {
			t.Errorf("Text(%v): %q", id, s)
		}
		if x, e := stamp.Read(s); x != id || e != api.OK {
			t.Errorf("Read(%q): %v, %d", s, x, e)
		}
	}
}

// formed: the texts of good ids, told without the package.
var formed = regexp.MustCompile(`\A([1-9]|1[01])/([1-9]|[123][0-9]|40)\z`)

// one looks at one text: is it told as what it is?
func one(t *testing.T, s string) {
	t.Helper()
	id, e := stamp.Read(s)
	switch {
	case !formed.MatchString(s):
		if e != api.ErrForm || id != (api.Id{}) {
			t.Fatalf("Read(%.60q): %v, %d, want ErrForm", s, id, e)
		}
	case e != api.OK || stamp.Text(id) != s:
		t.Fatalf("Read(%q): %v, %d, whose text is %q", s, id, e, stamp.Text(id))
	}
}

func TestP3_1_Refused(t *testing.T) {
	for _, s := range []string{
		"", "/", "//", "1", "1/", "/1", "1//1", "1/1/", "/1/1", "1/1/1", "1/1 ", " 1/1", "1 /1", "1/ 1", "1/1\n", "1\\1", "1.1", "1-1", "1 1", "11", "1:1", "1/1,1/2",
		"0/1", "1/0", "0/0", "00/1", "12/1", "1/41", "12/41", "99/99", "100/1", "1/100", "40/11", "-1/1", "1/-1", "-1/-1", "+1/1", "1/+1", "01/1", "1/01", "001/1", "1/040", "1_0/1", "1/1_0", "0x1/1", "1/0x1", "1e0/1", "1.0/1", "a/1", "1/a", "nil", "\"1/1\"",
		"\u0661/1", "1/\u0661", "\uff11/1", "1\u22151", "1/1\x00", "\x001/1", "1/\xff", "4294967297/1", "1/4294967297", "9223372036854775807/1", "9223372036854775808/1", "1/18446744073709551617", "-9223372036854775809/1",
		strings.Repeat("1", 1<<16), strings.Repeat("0", 1<<16) + "1/1", "1/" + strings.Repeat("1", 1<<16), strings.Repeat("/", 1<<16), strings.Repeat("1/1", 1<<16),
	} {
		if id, e := stamp.Read(s); e != api.ErrForm || id != (api.Id{}) {
			t.Errorf("Read(%.60q): %v, %d, want ErrForm", s, id, e)
		}
	}
	for _, id := range badIds() { // numbers that no good id has
		one(t, strconv.Itoa(id.Dev)+"/"+strconv.Itoa(id.Seq))
	}
}

// All texts of up to five of these bytes.
func TestP3_1_ReadOfEachShortText(t *testing.T) {
	const bytes = "01234569/+-_ x"
	var all func(s string)
	all = func(s string) {
		one(t, s)
		if len(s) < 5 {
			for i := range len(bytes) {
				all(s + bytes[i:i+1])
			}
		}
	}
	all("")
}

// Each text a byte off an id's.
func TestP3_1_ReadOfEachByte(t *testing.T) {
	for _, s := range []string{"1/1", "3/17", "11/40", "9/9"} {
		for i := range len(s) + 1 {
			one(t, s[:i])
			one(t, s[i:])
			for c := range 256 {
				b := string([]byte{byte(c)})
				one(t, s[:i]+b+s[i:])
				if i < len(s) {
					one(t, s[:i]+b+s[i+1:])
				}
			}
		}
	}
}

func FuzzRead(f *testing.F) {
	for _, s := range []string{"1/1", "3/17", "11/40", "12/1", "1/41", "01/1", "+1/1"} {
		f.Add(s)
	}
	f.Fuzz(one)
}

func TestP3_1_Find(t *testing.T) {
	for _, c := range []struct {
		l, id string
		want  int
	}{
		{"", "1/1", -1}, {"1/1", "1/1", 0}, {"1/1", "1/2", -1}, {"1/1", "2/1", -1}, {"1/2 2/2", "2/1", -1}, {"1/2 2/1", "1/1", -1}, {"1/1 2/5 1/2", "1/2", 2}, {"1/1 2/5 1/2", "2/5", 1}, {"1/1 2/5 1/2", "5/2", -1},
		{"2/1 1/1 1/1 2/1", "1/1", 1}, {"2/1 1/1 1/1 2/1", "2/1", 0}, {"11/40 1/1", "11/40", 0}, {"0/0", "0/0", 0}, {"1/1 0/0", "0/0", 1}, {"1/1", "0/0", -1}, {"1/-1 -1/1", "-1/1", 1},
	} {
		if n := stamp.Find(list(t, c.l), told(t, c.id)); n != c.want {
			t.Errorf("Find(%s, %s): %d, want %d", c.l, c.id, n, c.want)
		}
	}
	if n := stamp.Find([]api.Write{}, api.Id{}); n != -1 {
		t.Errorf("Find in an empty list: %d", n)
	}
}

func TestP3_1_SingleSteadyTight(t *testing.T) {
	for _, c := range []struct {
		l                     string
		single, steady, tight bool
	}{
		{"", true, true, true}, {"1/1", true, true, true}, {"11/40", true, true, true}, {"3/17", true, true, true},
		{"1/1 1/2", true, true, true}, {"1/1 2/5 1/2", true, true, true}, {"2/1 1/1", true, true, true}, {"1/3 1/4 2/39 2/40", true, true, true}, {"1/5 2/1 1/6 2/2 1/7 3/40", true, true, true},
		{"1/1 1/3", true, true, false}, {"1/1 2/1 1/3", true, true, false}, {"1/1 1/2 1/4", true, true, false}, {"1/1 1/40", true, true, false}, {"2/1 1/1 2/3 1/2", true, true, false}, {"1/1 1/2 1/3 2/1 2/2 2/4", true, true, false},
		{"1/2 1/1", true, false, false}, {"1/2 2/1 1/1", true, false, false}, {"1/1 1/3 1/2", true, false, false}, {"1/1 1/2 2/2 2/1", true, false, false}, {"1/40 1/1", true, false, false}, {"1/2 2/1 2/2 1/1", true, false, false},
		{"1/1 1/1", false, false, false}, {"1/1 1/2 1/1", false, false, false}, {"1/1 2/1 1/1", false, false, false}, {"1/1 2/1 2/2 2/1", false, false, false}, {"1/1 1/2 1/2 1/3", false, false, false},
		// of bad ids, by what stands there
		{"0/0", true, true, true}, {"-1/-2 -1/-1 -1/0 -1/1", true, true, true}, {"12/41 12/42", true, true, true}, {"0/0 0/0", false, false, false}, {"1/-1 1/1", true, true, false}, {"1/0 1/-1", true, false, false},
		{"1/9223372036854775806 1/9223372036854775807", true, true, true}, {"1/9223372036854775807 1/-9223372036854775808", true, false, false}, {"1/-9223372036854775808 1/9223372036854775807", true, true, false}, {"1/-9223372036854775808 1/-9223372036854775807", true, true, true}, {"1/-9223372036854775808 1/0", true, true, false},
	} {
		l := list(t, c.l)
		if stamp.Single(l) != c.single {
			t.Errorf("Single(%s): %v", c.l, !c.single)
		}
		if stamp.Steady(l) != c.steady {
			t.Errorf("Steady(%s): %v", c.l, !c.steady)
		}
		if stamp.Tight(l) != c.tight {
			t.Errorf("Tight(%s): %v", c.l, !c.tight)
		}
	}
}

// lists calls look with each list of at most n writes of these ids.
func lists(ids []api.Id, n int, look func(l []api.Write)) {
	var all func(l []api.Write)
	all = func(l []api.Write) {
		look(l)
		if len(l) < n {
			for _, id := range ids {
				all(append(l[:len(l):len(l)], api.Write{Id: id, Op: put("k", num(len(l)))}))
			}
		}
	}
	all(nil)
}

// few: ids of two devices.
func few() []api.Id {
	return []api.Id{{Dev: 1, Seq: 1}, {Dev: 1, Seq: 2}, {Dev: 1, Seq: 3}, {Dev: 2, Seq: 1}, {Dev: 2, Seq: 2}, {Dev: 2, Seq: 3}}
}

// by tells, by the chapter's words alone, of which kinds a list is.
func by(l []api.Write) (single, steady, tight bool) {
	single, steady, tight = true, true, true
	for i, w := range l {
		for _, x := range l[:i] {
			single = single && x.Id != w.Id
			steady = steady && (x.Id.Dev != w.Id.Dev || x.Id.Seq < w.Id.Seq)
		}
		for j := i - 1; j >= 0; j-- {
			if l[j].Id.Dev == w.Id.Dev { // the last one ahead of it
				tight = tight && l[j].Id.Seq == w.Id.Seq-1
				break
			}
		}
	}
	return single, steady, tight
}

func TestP3_1_EachList(t *testing.T) {
	lists(few(), 5, func(l []api.Write) {
		single, steady, tight := by(l)
		if stamp.Single(l) != single || stamp.Steady(l) != steady || stamp.Tight(l) != tight {
			t.Fatalf("%s: single %v, steady %v, tight %v", line(l), stamp.Single(l), stamp.Steady(l), stamp.Tight(l))
		}
	})
}

func TestP3_1_Begins(t *testing.T) {
	for _, c := range []struct {
		a, b string
		want bool
	}{
		{"", "", true}, {"", "1/1", true}, {"1/1", "", false}, {"1/1", "1/1", true}, {"1/1", "1/1 1/2", true}, {"1/1 1/2", "1/1", false}, {"1/1 1/2", "1/1 1/2", true}, {"1/1 1/2", "1/1 1/2 2/1", true},
		{"1/2", "1/1 1/2", false}, {"1/1 2/1", "1/1 1/2", false}, {"1/1 1/2", "1/2 1/1", false}, {"2/1", "1/1", false}, {"1/2", "1/1", false}, {"1/1 1/2 1/4", "1/1 1/2 1/3 1/4", false}, {"0/0", "0/0 0/0", true}, {"1/1 1/1", "1/1", false},
	} {
		if stamp.Begins(list(t, c.a), list(t, c.b)) != c.want {
			t.Errorf("Begins(%s, %s): %v", c.a, c.b, !c.want)
		}
	}
	long := list(t, "1/1 2/5 1/2 3/3")
	for i := range len(long) + 1 {
		for j := range len(long) + 1 {
			if stamp.Begins(long[:i], long[:j]) != (i <= j) {
				t.Errorf("Begins(%s, %s): %v", line(long[:i]), line(long[:j]), i > j)
			}
		}
	}
}

// others: a write, and all that differ from it in one thing.
func others() []api.Write {
	w := api.Write{Id: api.Id{Dev: 1, Seq: 2}, Op: api.Op{Kind: api.Cas, Key: "k", A: num(1), B: text("x")}}
	l := slices.Repeat([]api.Write{w}, 11)
	l[1].Id.Dev = 2
	l[2].Id.Seq = 3
	l[3].Op.Kind = api.Put
	l[4].Op.Key = "k."
	l[5].Op.A.Kind = api.Text
	l[6].Op.A.Num = 2
	l[7].Op.A.Text = "x"
	l[8].Op.B.Kind = api.Int
	l[9].Op.B.Num = 1
	l[10].Op.B.Text = "y"
	return l
}

// Whole writes are held against each other, not their ids alone.
func TestP3_1_BeginsOfWholeWrites(t *testing.T) {
	first := list(t, "2/1")
	for i, w := range others() {
		for j, x := range others() {
			a, b := append(slices.Clone(first), w), append(slices.Clone(first), x)
			if stamp.Begins(a, b) != (i == j) || stamp.Begins(a, append(b, w)) != (i == j) {
				t.Errorf("Begins(%#v, %#v): %v", a, b, i != j)
			}
		}
	}
}

func TestP3_1_Less(t *testing.T) {
	for _, c := range []struct{ l, gone, want string }{
		{"", "", ""}, {"", "1/1", ""}, {"1/1", "", "1/1"}, {"1/1", "1/1", ""}, {"1/1", "1/2", "1/1"}, {"1/1", "2/1", "1/1"}, {"1/2", "2/1", "1/2"},
		{"1/1 2/5 1/2", "2/5", "1/1 1/2"}, {"1/1 2/5 1/2", "1/2 1/1", "2/5"}, {"1/1 2/5 1/2", "1/2 2/5 1/1 3/3", ""}, {"1/1 2/5 1/2", "3/1 5/2 1/5 2/1", "1/1 2/5 1/2"}, {"1/2 1/1 3/1", "2/1", "1/2 1/1 3/1"},
		{"1/1 1/1 2/1", "2/1", "1/1 1/1"}, {"1/1 2/1 1/1", "1/1 1/1", "2/1"}, {"1/1 1/2", "1/1 1/1 1/1", "1/2"}, {"0/0 1/1 -1/41", "0/0", "1/1 -1/41"},
	} {
		l := list(t, c.l)
		if left := stamp.Less(l, list(t, c.gone)); line(left) != c.want {
			t.Errorf("Less(%s, %s): %s, want %s", c.l, c.gone, line(left), c.want)
		}
	}
}

// Which are gone is told by ids alone; what is left is whole.
func TestP3_1_LessGoesByIds(t *testing.T) {
	for _, w := range others() {
		for _, x := range others() {
			left := stamp.Less([]api.Write{w, x}, []api.Write{w})
			var want []api.Write
			if x.Id != w.Id {
				want = []api.Write{x}
			}
			if !slices.Equal(left, want) {
				t.Errorf("Less(%#v, then %#v, but the first): %#v", w, x, left)
			}
		}
	}
	all := others()
	if left := stamp.Less(all, nil); !slices.Equal(left, all) {
		t.Errorf("Less of all but none: %#v", left)
	}
}

func TestP3_1_Ids(t *testing.T) {
	for _, s := range []string{"", "1/1", "1/1 2/5 1/2", "2/1 1/1 1/1 2/1", "11/40 0/0 -1/41 9223372036854775807/-9223372036854775808"} {
		var want []api.Id
		for _, p := range strings.Fields(s) {
			want = append(want, told(t, p))
		}
		if ids := stamp.Ids(list(t, s)); !slices.Equal(ids, want) {
			t.Errorf("Ids(%s): %v", s, ids)
		}
	}
}

func TestP3_2_TightSteadySingle(t *testing.T) {
	look := func(l []api.Write) {
		if stamp.Tight(l) && !stamp.Steady(l) {
			t.Fatalf("%s: tight, not steady", line(l))
		}
		if stamp.Steady(l) && !stamp.Single(l) {
			t.Fatalf("%s: steady, not single", line(l))
		}
	}
	lists(few(), 5, look)
	// Beyond the greatest int the least one follows, but not in a list that rises.
	lists([]api.Id{{Dev: 1, Seq: greatest - 1}, {Dev: 1, Seq: greatest}, {Dev: 1, Seq: least}, {Dev: 1, Seq: least + 1}, {Dev: greatest, Seq: 0}, {Dev: least, Seq: 0}, {Seq: -1}}, 4, look)
}

func TestP3_2_WhatIsLeftIsSteady(t *testing.T) {
	lists(few(), 4, func(l []api.Write) {
		if !stamp.Steady(l) {
			return
		}
		lists(few(), 2, func(gone []api.Write) {
			if left := stamp.Less(l, gone); !stamp.Steady(left) {
				t.Fatalf("Less(%s, %s): %s, not steady", line(l), line(gone), line(left))
			}
		})
		for mask := range 1 << len(l) { // whatever is left, not by Less alone
			var left []api.Write
			for i, w := range l {
				if mask>>i&1 == 1 {
					left = append(left, w)
				}
			}
			if !stamp.Steady(left) {
				t.Fatalf("%s, of %s: not steady", line(left), line(l))
			}
		}
	})
}

// All ids that there are, the devices' by turns.
func TestP3_2_AllIds(t *testing.T) {
	var l []api.Write
	for seq := 1; seq <= api.MaxSeq; seq++ {
		for dev := api.MaxNodes - 1; dev >= 1; dev-- {
			l = append(l, api.Write{Id: api.Id{Dev: dev, Seq: seq}, Op: put("k", num(seq))})
		}
	}
	if !stamp.Tight(l) || !stamp.Steady(l) || !stamp.Single(l) {
		t.Error("all writes of all devices: not tight, or steady, or single")
	}
	for i := range l {
		left := stamp.Less(l, l[i:i+1])
		last := l[i].Id.Seq == 1 || l[i].Id.Seq == api.MaxSeq // at an end of its device's, it leaves no gap
		if len(left) != len(l)-1 || stamp.Find(left, l[i].Id) != -1 || !stamp.Steady(left) || stamp.Tight(left) != last {
			t.Errorf("without %s: %d left, steady %v, tight %v", stamp.Text(l[i].Id), len(left), stamp.Steady(left), stamp.Tight(left))
		}
	}
	if l = append(l, l[0]); stamp.Single(l) || stamp.Steady(l) || stamp.Tight(l) {
		t.Error("with the first one again at the end: single, or steady, or tight")
	}
}
