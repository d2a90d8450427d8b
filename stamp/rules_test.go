package stamp_test

import (
	"math"
	"slices"
	"strconv"
	"strings"
	"testing"
	"unsafe"

	"spinney/api"
	"spinney/stamp"
)

// anyTexts: texts of any bytes, most of them no id's.
func anyTexts() []string {
	l := []string{"", "/", "1/1", "11/40", "12/41", "-/-", "+/+", "\x00", "\xff", "\xf0\x9f", "\ufffd", strings.Repeat("/", 1<<16), strings.Repeat("9", 1<<16) + "/1", "1/" + strings.Repeat("0", 1<<16)}
	for i := range 256 {
		c := string([]byte{byte(i)})
		l = append(l, c, "1"+c+"1", "1/"+c, c+"/1", "1/1"+c)
	}
	return l
}

// anyLists: of good writes, and of others; nil ones, empty ones, ones with spare room.
func anyLists() [][]api.Write {
	var all []api.Write
	ops := append(goodOps(), badOps()...)
	for i, id := range append(goodIds(), badIds()...) {
		all = append(all, api.Write{Id: id, Op: ops[i%len(ops)]})
	}
	for _, k := range []api.Kind{math.MinInt, -1, 3, math.MaxInt} {
		v := api.Value{Kind: k, Num: math.MinInt, Text: strings.Repeat("\xff", 1000)}
		all = append(all, api.Write{Op: api.Op{Kind: math.MinInt, Key: strings.Repeat(" ", 1000), A: v, B: v}})
	}
	back := slices.Clone(all)
	slices.Reverse(back)
	return [][]api.Write{nil, {}, make([]api.Write, 0, 5), make([]api.Write, 3, 9), all, back, all[:1], all[100:200], back[100:200:200], others(), slices.Repeat(all[:7], 9), all[len(all)-20:]}
}

type answers struct {
	good, single, steady, tight, begins bool
	order, find                         int
	text                                string
	read                                api.Id
	readErr                             api.Errno
	less                                []api.Write
	ids                                 []api.Id
}

func ask(a, b []api.Write, s string) (r answers) {
	var x, y api.Write
	if len(a) > 0 {
		x = a[0]
	}
	if len(b) > 0 {
		y = b[len(b)-1]
	}
	r.good, r.order, r.text = stamp.Good(x), stamp.Compare(x.Id, y.Id), stamp.Text(y.Id)
	r.read, r.readErr = stamp.Read(s)
	r.find, r.single, r.steady, r.tight = stamp.Find(a, y.Id), stamp.Single(a), stamp.Steady(a), stamp.Tight(a)
	r.begins, r.less, r.ids = stamp.Begins(a, b), stamp.Less(a, b), stamp.Ids(a)
	return r
}

// same tells whether two answers are, lists that are empty and nil ones taken as the same.
func same(a, b answers) bool {
	if !slices.Equal(a.less, b.less) || !slices.Equal(a.ids, b.ids) {
		return false
	}
	a.less, a.ids, b.less, b.ids = nil, nil, nil, nil
	return a.good == b.good && a.single == b.single && a.steady == b.steady && a.tight == b.tight && a.begins == b.begins &&
		a.order == b.order && a.find == b.find && a.text == b.text && a.read == b.read && a.readErr == b.readErr
}

// All calls end, and none panics: R7 lets this layer's take any writes.
func TestP9_AnyArguments(t *testing.T) {
	for _, a := range anyLists() {
		for _, b := range anyLists() {
			ask(a, b, "")
		}
		for _, w := range a {
			stamp.Good(w)
			stamp.Text(w.Id)
			stamp.Find(a, w.Id)
		}
	}
	for _, s := range anyTexts() {
		stamp.Read(s)
	}
}

// Lists far longer than a tree's writes end soon, too.
func TestP9_LongLists(t *testing.T) {
	const many = 1 << 19
	l := make([]api.Write, many)
	for i := range l {
		l[i].Id = api.Id{Dev: i % 3, Seq: i / 3}
	}
	if !stamp.Single(l) || !stamp.Steady(l) || !stamp.Tight(l) || !stamp.Begins(l, l) || len(stamp.Ids(l)) != many || stamp.Find(l, l[many-1].Id) != many-1 {
		t.Error("a long tight list isn't told as one")
	}
	if left := stamp.Less(l, l[:many-1]); len(left) != 1 || left[0] != l[many-1] {
		t.Errorf("what is left of a long list: %d", len(left))
	}
}

// R1.
func TestP10_R1_IntHas64Bits(t *testing.T) {
	if strconv.IntSize != 64 {
		t.Errorf("an int has %d bits", strconv.IntSize)
	}
	if c := stamp.Compare(api.Id{Dev: 1 << 32, Seq: 2}, api.Id{Dev: 1<<32 + 1, Seq: 1}); c != -1 {
		t.Errorf("Compare of devices of more than 32 bits: %d", c)
	}
	if stamp.Good(api.Write{Id: api.Id{Dev: 1<<32 + 1, Seq: 1}, Op: put("k", num(1))}) {
		t.Error("Good of a device of more than 32 bits")
	}
}

// R2: this layer has one error alone: whatever else is wrong too, it is that.
func TestP10_R2_TheFirstError(t *testing.T) {
	for _, s := range []string{"12/41", "0/0", "012/041", "99999999999999999999/99999999999999999999", "x/41", "12/x"} {
		if _, e := stamp.Read(s); e != api.ErrForm {
			t.Errorf("Read(%q): %d, want ErrForm", s, e)
		}
	}
}

// R3: beside an error stands the zero value.
func TestP10_R3_BesideAnError(t *testing.T) {
	for _, s := range anyTexts() {
		if id, e := stamp.Read(s); e != api.OK && id != (api.Id{}) {
			t.Errorf("Read(%.50q): %v beside %d", s, id, e)
		}
	}
}

// R4, R8: nothing is kept: whatever was asked between, errors too, an answer is what it was.
func TestP10_R4_R8_TheSameAgain(t *testing.T) {
	l, texts := anyLists(), anyTexts()
	var first []answers
	for i, s := range texts {
		first = append(first, ask(l[i%len(l)], l[i*7/len(l)%len(l)], s))
	}
	for i := len(texts) - 1; i >= 0; i-- {
		if again := ask(l[i%len(l)], l[i*7/len(l)%len(l)], texts[i]); !same(again, first[i]) {
			t.Errorf("%d: another answer", i)
		}
	}
}

// R5: a list that is nil means the same as one that is empty.
func TestP10_R5_EmptyAndNil(t *testing.T) {
	none := [][]api.Write{nil, {}, make([]api.Write, 0, 4), list(t, "1/1")[:0]}
	one := list(t, "1/1")
	for _, a := range none {
		if stamp.Find(a, api.Id{}) != -1 || !stamp.Single(a) || !stamp.Steady(a) || !stamp.Tight(a) || len(stamp.Ids(a)) != 0 {
			t.Errorf("of an empty list %#v: something else than of another one", a)
		}
		if len(stamp.Less(a, one)) != 0 || !slices.Equal(stamp.Less(one, a), one) || !stamp.Begins(a, one) || stamp.Begins(one, a) {
			t.Errorf("of one write and an empty list %#v: something else than of another one", a)
		}
		for _, b := range none {
			if !stamp.Begins(a, b) || len(stamp.Less(a, b)) != 0 {
				t.Errorf("of empty lists %#v, %#v: something else than of others", a, b)
			}
		}
	}
}

// shares tells whether two texts have bytes of one memory.
func shares(a, b string) bool {
	if a == "" || b == "" {
		return false
	}
	x, y := uintptr(unsafe.Pointer(unsafe.StringData(a))), uintptr(unsafe.Pointer(unsafe.StringData(b)))
	return x < y+uintptr(len(b)) && y < x+uintptr(len(a))
}

// roomy: writes whose texts are of their own, with others in the spare room behind them.
func roomy(first, past int) []api.Write {
	l := make([]api.Write, 0, past)
	for i := range past {
		o := api.Op{Kind: api.Cas, Key: strings.Clone("key"), A: text(strings.Clone("old")), B: text(strings.Clone("new"))}
		l = append(l, api.Write{Id: api.Id{Dev: 1 + i%2, Seq: first + i}, Op: o})
	}
	return l[:past/2]
}

// texts: all of the writes of a list, its spare room's too.
func texts(l []api.Write) []string {
	var s []string
	for _, w := range l[:cap(l)] {
		s = append(s, w.Op.Key, w.Op.A.Text, w.Op.B.Text)
	}
	return s
}

// P3.3, and R6: what is handed in stays, with its spare room.
func TestP3_3_WhatIsHandedInStays(t *testing.T) {
	a, b := roomy(1, 12), roomy(3, 8)
	wasA, wasB := slices.Clone(a[:cap(a)]), slices.Clone(b[:cap(b)])
	for _, p := range [][2][]api.Write{{a, b}, {b, a}, {a, a}, {a, a[:2]}, {a[:2], a}, {a, nil}, {a, b[:0]}} {
		ask(p[0], p[1], "1/1")
		if !slices.Equal(a[:cap(a)], wasA) || !slices.Equal(b[:cap(b)], wasB) {
			t.Fatalf("what was handed in has changed: %#v, %#v", a[:cap(a)], b[:cap(b)])
		}
	}
}

// P3.3, and R6: answers are new memory: writing to them, and to their spare room, changes nothing else.
func TestP3_3_AnswersAreNewMemory(t *testing.T) {
	a, b := roomy(1, 12), roomy(3, 8)
	was, wasB := slices.Clone(a[:cap(a)]), slices.Clone(b[:cap(b)])
	for _, gone := range [][]api.Write{nil, b, b[:0], a[:0], a[1:2], a[:2], a} {
		left, again := stamp.Less(a, gone), stamp.Less(a, gone)
		ids, idsAgain := stamp.Ids(a), stamp.Ids(a)
		wasLeft, wasIds := slices.Clone(again), slices.Clone(idsAgain)
		for _, s := range texts(left) {
			for _, x := range slices.Concat(texts(a), texts(gone), texts(again)) {
				if shares(s, x) {
					t.Fatalf("what is left shares the text %q", s)
				}
			}
		}
		clear(left[:cap(left)])
		clear(ids[:cap(ids)])
		if !slices.Equal(a[:cap(a)], was) || !slices.Equal(b[:cap(b)], wasB) || !slices.Equal(again, wasLeft) || !slices.Equal(idsAgain, wasIds) {
			t.Fatal("an answer shares memory")
		}
	}
}

// What was answered doesn't follow what was handed in.
func TestP3_3_NothingHandedInIsKept(t *testing.T) {
	a, gone := roomy(1, 12), roomy(3, 8)
	left, ids := stamp.Less(a, gone[:1]), stamp.Ids(a)
	wasLeft, wasIds := slices.Clone(left), slices.Clone(ids)
	clear(a[:cap(a)])
	clear(gone[:cap(gone)])
	if len(left) != 5 || !slices.Equal(left, wasLeft) || !slices.Equal(ids, wasIds) {
		t.Errorf("an answer has changed with what was handed in: %#v, %v", left, ids)
	}
}

// R6: a text that is answered is new memory; what is read stays.
func TestP10_R6_Texts(t *testing.T) {
	id := api.Id{Dev: 11, Seq: 40}
	in := strings.Clone("11/40")
	if x, e := stamp.Read(in); x != id || e != api.OK || in != "11/40" {
		t.Errorf("Read(%q): %v, %d", in, x, e)
	}
	if a, b := stamp.Text(id), stamp.Text(id); a != b || shares(a, b) || shares(a, in) {
		t.Errorf("Text(%v): %q, %q: not new memory", id, a, b)
	}
}

// R7: of writes that aren't good the calls do what their words say by what stands there.
func TestP10_R7_WritesThatAreNotGood(t *testing.T) {
	l := list(t, "0/0 -1/41 0/1 99/-7")
	for i := range l {
		l[i].Op = api.Op{Kind: 7, Key: "NO KEY", A: api.Value{Kind: 9, Num: i}}
		if stamp.Good(l[i]) || stamp.Find(l, l[i].Id) != i {
			t.Errorf("%#v: Good %v, Find %d", l[i], stamp.Good(l[i]), stamp.Find(l, l[i].Id))
		}
	}
	if !stamp.Single(l) || !stamp.Steady(l) || !stamp.Tight(l) || !stamp.Begins(l[:2], l) {
		t.Errorf("%s: single %v, steady %v, tight %v", line(l), stamp.Single(l), stamp.Steady(l), stamp.Tight(l))
	}
	if left := stamp.Less(l, l[1:3]); len(left) != 2 || left[0] != l[0] || left[1] != l[3] {
		t.Errorf("Less: %#v", left)
	}
	if ids := stamp.Ids(l); len(ids) != 4 || ids[1] != l[1].Id || ids[3] != l[3].Id {
		t.Errorf("Ids: %v", ids)
	}
}
