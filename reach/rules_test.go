package reach_test

import (
	"math"
	"slices"
	"strconv"
	"strings"
	"testing"
	"unsafe"

	"spinney/api"
	"spinney/reach"
)

// anyTexts: texts of any bytes, most of them no key and no reach's.
func anyTexts() []string {
	l := []string{"", "a", "a,b", "*", "!", ",", "a,,b", "*,a", "\x00", "\xff", "\xf0\x9f", "\ufffd", sized(20), sized(21), strings.Repeat(",", 1<<16), strings.Repeat("a,", 1<<16), strings.Repeat("*", 1<<16), strings.Repeat("\xff", 1<<16)}
	return append(l, notPrefixes()...)
}

// anyLists: good reaches and others; nil ones, empty ones, ones with spare room.
func anyLists() [][]string {
	texts := anyTexts()
	back := slices.Clone(texts)
	slices.Reverse(back)
	l := [][]string{nil, {}, make([]string, 0, 5), make([]string, 3, 9), texts, back, texts[:1], back[7:60], {"", "a"}, {"b", "a"}, {"a", "a"}, {"a.x", "a"}, told("a b c d e f g"), told("a b c d e f"), told("a b"), {sized(21)}, {"a", "B"}}
	for _, r := range reaches(1) {
		l = append(l, r)
	}
	return append(l, reach.Both(of("a b.1 b.2 b.3 b.4 b.5"), of("a.1 a.2 a.3 a.4 a.5 b")))
}

// anyWrites: good ones and others, with all kinds of keys.
func anyWrites() []api.Write {
	l := puts(append(keys()[:50], anyTexts()...))
	for i := range l {
		if i%3 == 0 {
			v := api.Value{Kind: api.Kind(i - 9), Num: math.MinInt + i, Text: strings.Repeat("\xff", i)}
			l[i] = api.Write{Id: api.Id{Dev: i - 9, Seq: -i}, Op: api.Op{Kind: i - 7, Key: l[i].Op.Key, A: v, B: v}}
		}
	}
	return l
}

type answers struct {
	good, has, covers       bool
	of, both, join, read    api.Reach
	ofErr, joinErr, readErr api.Errno
	picked                  []api.Write
	text                    string
}

func ask(a, b []string, l []api.Write, s string) (r answers) {
	r.good, r.has, r.covers = reach.Good(a), reach.Has(a, s), reach.Covers(a, b)
	r.of, r.ofErr = reach.Of(a)
	r.both = reach.Both(a, b)
	r.join, r.joinErr = reach.Join(a, b)
	r.picked, r.text = reach.Pick(a, l), reach.Text(b)
	r.read, r.readErr = reach.Read(s)
	return r
}

// same tells whether two answers are, lists that are empty and nil ones taken as the same.
func same(a, b answers) bool {
	return a.good == b.good && a.has == b.has && a.covers == b.covers && a.text == b.text &&
		a.ofErr == b.ofErr && a.joinErr == b.joinErr && a.readErr == b.readErr &&
		alike(a.of, b.of) && alike(a.both, b.both) && alike(a.join, b.join) && alike(a.read, b.read) && slices.Equal(a.picked, b.picked)
}

// All calls end, and none panics; of lists that aren't good reaches, too.
func TestP9_AnyArguments(t *testing.T) {
	lists, l := anyLists(), anyWrites()
	for _, a := range lists {
		for _, b := range lists {
			ask(a, b, l[:20], "a")
		}
		for _, s := range anyTexts() {
			reach.Has(a, s)
		}
		reach.Pick(a, l)
	}
	for _, s := range anyTexts() {
		reach.Read(s)
	}
}

// Long lists end soon, too.
func TestP9_LongLists(t *testing.T) {
	const many = 1 << 18
	l, bad := make([]string, many), make([]string, many)
	for i := range l {
		l[i] = "k." + strconv.Itoa(many-i)
		bad[i] = "K"
	}
	if r, e := reach.Of(l); e != api.ErrFull || len(r) != 0 {
		t.Errorf("Of many: %d prefixes, %d", len(r), e)
	}
	if r, e := reach.Of(bad); e != api.ErrForm || len(r) != 0 {
		t.Errorf("Of many that are no prefixes: %d prefixes, %d", len(r), e)
	}
	if r, e := reach.Of(append(l, "k")); e != api.OK || !alike(r, of("k")) {
		t.Errorf("Of many, and a beginning of them all: %q, %d", r, e)
	}
	if reach.Good(l) || reach.Good(bad) {
		t.Error("Good of many")
	}
	if p := reach.Pick(of("k.1 l"), puts(l)); len(p) == 0 || len(p) == many {
		t.Errorf("Pick of many: %d", len(p))
	}
}

// R1.
func TestP10_R1_IntHas64Bits(t *testing.T) {
	if strconv.IntSize != 64 {
		t.Errorf("an int has %d bits", strconv.IntSize)
	}
	w := api.Write{Id: api.Id{Dev: 1 << 40, Seq: math.MaxInt}, Op: api.Op{Kind: api.Put, Key: "a", A: api.Value{Kind: api.Int, Num: math.MinInt}}}
	if p := reach.Pick(of("a"), []api.Write{w}); len(p) != 1 || p[0] != w {
		t.Errorf("Pick of a write of great numbers: %v", p)
	}
}

// R2: what is no prefix is told ahead of too many prefixes.
func TestP10_R2_TheFirstError(t *testing.T) {
	for _, s := range notPrefixes() {
		for at := range 8 {
			l := slices.Insert(told("a b c d e f g"), at, s)
			if _, e := reach.Of(l); e != api.ErrForm {
				t.Errorf("Of seven, and %.30q at %d: %d, want ErrForm", s, at, e)
			}
		}
		if _, e := reach.Of([]string{s, "", "a", "b", "c", "d", "e", "f", "g"}); e != api.ErrForm {
			t.Errorf("Of all keys, and %.30q: %d, want ErrForm", s, e)
		}
	}
	// Too many that are told by one that begins them all are no fault.
	if r, e := reach.Of(told("a b c d e f g *")); e != api.OK || !alike(r, of("*")) {
		t.Errorf("Of seven and the empty one: %q, %d", r, e)
	}
}

// R3: beside an error stands the zero value.
func TestP10_R3_BesideAnError(t *testing.T) {
	for _, s := range anyTexts() {
		if r, e := reach.Read(s); e != api.OK && len(r) != 0 {
			t.Errorf("Read(%.50q): %q beside %d", s, r, e)
		}
	}
	for _, l := range anyLists() {
		if r, e := reach.Of(l); e != api.OK && len(r) != 0 {
			t.Errorf("Of(%.50q): %q beside %d", l, r, e)
		}
	}
	if r, e := reach.Join(of("a b c d e f"), of("g")); e != api.ErrFull || len(r) != 0 {
		t.Errorf("Join: %q beside %d", r, e)
	}
}

// R4, R8: nothing is kept: whatever was asked between, errors too, an answer is what it was.
func TestP10_R4_R8_TheSameAgain(t *testing.T) {
	l, texts, w := anyLists(), anyTexts(), anyWrites()
	var first []answers
	for i, s := range texts {
		first = append(first, ask(l[i%len(l)], l[i*7/len(l)%len(l)], w[i%len(w):], s))
	}
	for i := len(texts) - 1; i >= 0; i-- {
		if again := ask(l[i%len(l)], l[i*7/len(l)%len(l)], w[i%len(w):], texts[i]); !same(again, first[i]) {
			t.Errorf("%d: another answer", i)
		}
	}
}

// R5: a list that is nil means the same as one that is empty.
func TestP10_R5_EmptyAndNil(t *testing.T) {
	none := []api.Reach{nil, {}, make(api.Reach, 0, 4), of("a b")[:0]}
	one, w := of("a"), puts([]string{"a"})
	for _, a := range none {
		r, e := reach.Of(a)
		if !reach.Good(a) || e != api.OK || len(r) != 0 || reach.Has(a, "a") || reach.Has(a, "") || reach.Text(a) != "!" || len(reach.Pick(a, w)) != 0 {
			t.Errorf("of an empty reach %#v: something else than of another one", a)
		}
		if !reach.Covers(one, a) || reach.Covers(a, one) || len(reach.Both(a, one)) != 0 || len(reach.Both(one, a)) != 0 {
			t.Errorf("of a reach and an empty one %#v: something else than of another one", a)
		}
		for _, p := range [][2]api.Reach{{a, one}, {one, a}} {
			if r, e := reach.Join(p[0], p[1]); e != api.OK || !alike(r, one) {
				t.Errorf("Join(%#v, %#v): %q, %d", p[0], p[1], r, e)
			}
		}
		for _, b := range none {
			if r, e := reach.Join(a, b); !reach.Covers(a, b) || len(reach.Both(a, b)) != 0 || e != api.OK || len(r) != 0 {
				t.Errorf("of empty reaches %#v, %#v: something else than of others", a, b)
			}
		}
	}
	for _, l := range [][]api.Write{nil, {}, w[:0]} {
		if len(reach.Pick(one, l)) != 0 {
			t.Errorf("Pick of an empty list %#v", l)
		}
	}
}

// shares tells whether two texts have bytes of one memory.
func shares(a, b string) bool {
	if a == "" || b == "" {
		return false
	}
	x, y := uintptr(unsafe.Pointer(unsafe.StringData(a))), uintptr(unsafe.Pointer(unsafe.StringData(b)))
	return x < y+uintptr(len(b)) && y < x+uintptr(len(a))
}

// roomy: the prefixes of ahead, with those of behind in the spare room, their texts in memory of their own.
func roomy(ahead, behind string) api.Reach {
	var l api.Reach
	for _, p := range slices.Concat(told(ahead), told(behind)) {
		l = append(l, strings.Clone(p))
	}
	return l[:len(told(ahead))]
}

// roomyWrites: the same of writes of keys.
func roomyWrites(ahead, behind string) []api.Write {
	l := puts(roomy(ahead+" "+behind, ""))
	for i := range l {
		l[i].Op.A = api.Value{Kind: api.Text, Text: strings.Clone("old")}
		l[i].Op.B = api.Value{Kind: api.Text, Text: strings.Clone("new")}
	}
	return l[:len(told(ahead))]
}

// texts: all of a list of writes, its spare room's too.
func texts(l []api.Write) []string {
	var s []string
	for _, w := range l[:cap(l)] {
		s = append(s, w.Op.Key, w.Op.A.Text, w.Op.B.Text)
	}
	return s
}

// pairs: of reaches, with what matters in the spare room of each.
func pairs() [][2]api.Reach {
	return [][2]api.Reach{
		{roomy("a b", "c z"), roomy("a.x b", "c")}, {roomy("a.x b", "a y"), roomy("a", "b")}, {roomy("b", "a"), roomy("a c", "b *")}, {roomy("*", "* *"), roomy("a b c d e f", "g")}, {roomy("", "a"), roomy("b", "a")}, {roomy("a b c d e f", "g"), roomy("f g", "h")},
	}
}

// P4.3, and R6: what is handed in stays, with its spare room.
func TestP4_3_WhatIsHandedInStays(t *testing.T) {
	for _, p := range pairs() {
		for _, p := range [][2]api.Reach{p, {p[1], p[0]}, {p[0], p[0]}, {p[1], p[1]}} {
			a, b := p[0], p[1]
			l := roomyWrites("b a.x c a", "a a.x")
			wasA, wasB, wasL := slices.Clone(a[:cap(a)]), slices.Clone(b[:cap(b)]), slices.Clone(l[:cap(l)])
			ask(a, b, l, "a,b")
			if !slices.Equal(a[:cap(a)], wasA) || !slices.Equal(b[:cap(b)], wasB) || !slices.Equal(l[:cap(l)], wasL) {
				t.Fatalf("what was handed in has changed: %q, %q, %v", a[:cap(a)], b[:cap(b)], l[:cap(l)])
			}
		}
	}
	// Lists in any order, with doubles, are neither put in order nor thinned out in place.
	for _, s := range []string{"b a.x a", "b a a b", "g f e d c b a", "a *", "b A a"} {
		l := roomy(s, "a 0")
		was := slices.Clone(l[:cap(l)])
		reach.Of(l)
		reach.Good(l)
		if !slices.Equal(l[:cap(l)], was) {
			t.Errorf("%q was handed in, and is %q", was, l[:cap(l)])
		}
	}
}

// P4.3, and R6: answers are new memory: writing to them, and to their spare room, changes nothing else.
func TestP4_3_AnswersAreNewMemory(t *testing.T) {
	for _, p := range pairs() {
		a, b, l, s := p[0], p[1], roomyWrites("b a.x c a", "a a.x"), strings.Clone("a,b,c.1")
		wasA, wasB, wasL := slices.Clone(a[:cap(a)]), slices.Clone(b[:cap(b)]), slices.Clone(l[:cap(l)])
		first, again := ask(a, b, l, s), ask(a, b, l, s)
		given := slices.Concat(a[:cap(a)], b[:cap(b)], texts(l), []string{s})
		given = slices.Concat(given, again.of, again.both, again.join, again.read, texts(again.picked))
		for _, x := range slices.Concat(first.of, first.both, first.join, first.read, texts(first.picked)) {
			if slices.ContainsFunc(given, func(y string) bool { return shares(x, y) }) {
				t.Fatalf("of %q, %q: an answer shares the text %q", a, b, x)
			}
		}
		for _, r := range []api.Reach{first.of, first.both, first.join, first.read} {
			for i := range r[:cap(r)] {
				r[:cap(r)][i] = "other"
			}
		}
		clear(first.picked[:cap(first.picked)])
		if !slices.Equal(a[:cap(a)], wasA) || !slices.Equal(b[:cap(b)], wasB) || !slices.Equal(l[:cap(l)], wasL) || !same(again, ask(a, b, l, s)) {
			t.Fatalf("of %q, %q: an answer shares memory", wasA, wasB)
		}
	}
}

// A text that is answered is new memory, of one prefix too.
func TestP4_3_Texts(t *testing.T) {
	for _, s := range []string{"a", "a.x", "a b", "a b c d e f", sized(20)} {
		r := roomy(s, "z")
		x, y := reach.Text(r), reach.Text(r)
		if x != y || shares(x, y) || slices.ContainsFunc(r, func(p string) bool { return shares(x, p) }) {
			t.Errorf("Text(%q): %q, %q: not new memory", r, x, y)
		}
	}
}

// What was answered doesn't follow what was handed in.
func TestP4_3_NothingHandedInIsKept(t *testing.T) {
	for _, p := range pairs() {
		a, b, l := p[0], p[1], roomyWrites("b a.x c a", "a a.x")
		was, wanted := ask(a, b, l, "a"), ask(slices.Clone(a), slices.Clone(b), slices.Clone(l), "a")
		clear(a[:cap(a)])
		clear(b[:cap(b)])
		clear(l[:cap(l)])
		if !same(was, wanted) {
			t.Errorf("an answer has changed with what was handed in: %v, want %v", was, wanted)
		}
	}
}

// R7: Has takes any text, and Pick any writes: of what is no key they tell whether one of the prefixes begins it.
func TestP10_R7_AnyTextsAndWrites(t *testing.T) {
	for _, r := range append(reaches(2), of("a b c d e f"), reach.Both(of("a b.1 b.2 b.3 b.4 b.5"), of("a.1 a.2 a.3 a.4 a.5 b"))) {
		for _, s := range append(anyTexts(), "a\x00", "a A", "b,a", "a."+sized(40)) {
			if reach.Has(r, s) != has(r, s) {
				t.Errorf("Has(%q, %.40q): %v", r, s, !has(r, s))
			}
		}
		var want []api.Write
		l := anyWrites()
		for _, w := range l {
			if has(r, w.Op.Key) {
				want = append(want, w)
			}
		}
		if p := reach.Pick(r, l); !slices.Equal(p, want) {
			t.Errorf("Pick(%q) of any writes: %d, want %d", r, len(p), len(want))
		}
	}
}
