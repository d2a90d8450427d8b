package letter_test

import (
	"bytes"
	"fmt"
	"math"
	"slices"
	"strings"
	"testing"

	"spinney/api"
	"spinney/letter"
	"spinney/roll"
)

const least, greatest = math.MinInt, math.MaxInt

// The greatest numbers of the chapter, written out.
const (
	lives  = 1073741824
	turns  = 1048576
	stamps = 1099511627776
	places = 4096
)

func num(n int) api.Value     { return api.Value{Kind: api.Int, Num: n} }
func text(s string) api.Value { return api.Value{Kind: api.Text, Text: s} }

func sized(n int) string { return strings.Repeat("z", n) }

func put(dev, seq int, key string, v api.Value) api.Write {
	return api.Write{Id: api.Id{Dev: dev, Seq: seq}, Op: api.Op{Kind: api.Put, Key: key, A: v}}
}

func del(dev, seq int, key string) api.Write {
	return api.Write{Id: api.Id{Dev: dev, Seq: seq}, Op: api.Op{Kind: api.Del, Key: key}}
}

// short tells bytes, of many the first ones.
func short(b []byte) string {
	if len(b) > 80 {
		return fmt.Sprintf("[% x ..: %d]", b[:80], len(b))
	}
	return fmt.Sprintf("[% x]", b)
}

// tell tells a letter likewise.
func tell(l letter.Letter) string {
	s := fmt.Sprintf("%+v", l)
	return s[:min(len(s), 400)]
}

// same tells whether two letters are: an empty list is as one that is nil.
func same(a, b letter.Letter) bool {
	x, y := a, b
	x.Reach, x.Writes, x.Lines, x.Cells = nil, nil, nil, nil
	y.Reach, y.Writes, y.Lines, y.Cells = nil, nil, nil, nil
	return fmt.Sprint(x) == fmt.Sprint(y) && slices.Equal(a.Reach, b.Reach) && slices.Equal(a.Writes, b.Writes) && slices.Equal(a.Lines, b.Lines) && slices.Equal(a.Cells, b.Cells)
}

// zero tells whether a letter is what stands beside an error.
func zero(l letter.Letter) bool { return same(l, letter.Letter{}) }

// someWrites: n of them, of all operations.
func someWrites(n int) []api.Write {
	var l []api.Write
	for i := range n {
		l = append(l, []api.Write{put(1+i%11, 1+i%40, "n.1", num(i*i*i)), del(1, 1, "k"), put(11, 40, sized(api.MaxKey), text(sized(i%41))),
			{Id: api.Id{Dev: 2, Seq: 3}, Op: api.Op{Kind: api.Add, Key: "-", A: num(least)}}, {Id: api.Id{Dev: 3, Seq: 3}, Op: api.Op{Kind: api.Cas, Key: ".", A: text(""), B: text("\xff")}}}[i%5])
	}
	return l
}

// lines: with writes, at places.
func lines(at ...int) []roll.Line {
	var l []roll.Line
	for i, w := range someWrites(len(at)) {
		l = append(l, roll.Line{At: at[i], Write: w})
	}
	return l
}

func someCells() []api.Cell {
	return []api.Cell{{Key: "a", Value: num(greatest)}, {Key: "b.1", Value: text("")}, {Key: sized(api.MaxKey), Value: text(sized(api.MaxText))}}
}

// Letters of each kind, with all that the kind uses.
func hello() letter.Letter {
	return letter.Letter{Kind: letter.Hello, From: 3, To: 1, Life: 2, Turn: 5, Prefix: 300, Reach: api.Reach{"a", "b.x"}}
}

func offer() letter.Letter {
	return letter.Letter{Kind: letter.Offer, From: 3, To: 1, Life: 2, Turn: 5, Prefix: 300, Low: 299, First: 7, Stamp: 2049, Writes: someWrites(6)}
}

func update() letter.Letter {
	return letter.Letter{Kind: letter.Update, From: 1, To: 3, Life: 2, Turn: 5, Stamp: 2050, Taken: 12, Start: 20, End: 25, Lines: lines(20, 22, 24), Writes: someWrites(2)}
}

func snap() letter.Letter {
	l := update()
	l.Snap, l.Cells, l.Lasts = true, someCells(), roll.Lasts{0, 40, 0, 17}
	return l
}

func reset() letter.Letter {
	return letter.Letter{Kind: letter.Reset, From: 1, To: 3, Life: 2, Turn: 5}
}

// kinds: one of each.
func kinds() []letter.Letter {
	return []letter.Letter{hello(), offer(), update(), snap(), reset()}
}

// with is a letter with a change.
func with(l letter.Letter, change func(l *letter.Letter)) letter.Letter {
	change(&l)
	return l
}

// goodLetters: of all kinds, at all edges.
func goodLetters() []letter.Letter {
	all := kinds()
	for _, l := range kinds() {
		for _, c := range []func(l *letter.Letter){
			func(l *letter.Letter) { l.From, l.To = 0, 11 }, func(l *letter.Letter) { l.From, l.To = 11, 0 }, func(l *letter.Letter) { l.From, l.To = 1, 2 },
			func(l *letter.Letter) { l.Life = 1 }, func(l *letter.Letter) { l.Life = lives }, func(l *letter.Letter) { l.Life = lives - 1 },
			func(l *letter.Letter) { l.Turn = 1 }, func(l *letter.Letter) { l.Turn = turns }, func(l *letter.Letter) { l.Turn = turns - 1 },
		} {
			all = append(all, with(l, c))
		}
		// Nothing but what each letter has.
		all = append(all, letter.Letter{Kind: l.Kind, From: 2, To: 4, Life: 1, Turn: 1})
	}
	for _, c := range []func(l *letter.Letter){
		func(l *letter.Letter) { l.Prefix = 0 }, func(l *letter.Letter) { l.Prefix = 1 }, func(l *letter.Letter) { l.Prefix = places - 1 }, func(l *letter.Letter) { l.Prefix = places },
		func(l *letter.Letter) { l.Reach = nil }, func(l *letter.Letter) { l.Reach = api.Reach{""} }, func(l *letter.Letter) { l.Reach = api.Reach{"-", ".", "0", "9", "a", sized(api.MaxKey)} },
	} {
		all = append(all, with(hello(), c))
	}
	for _, c := range []func(l *letter.Letter){
		func(l *letter.Letter) { l.Prefix, l.Low = 0, 0 }, func(l *letter.Letter) { l.Prefix, l.Low = places, 0 }, func(l *letter.Letter) { l.Prefix, l.Low = places, places }, func(l *letter.Letter) { l.Low = l.Prefix }, func(l *letter.Letter) { l.Prefix, l.Low = 1, 1 },
		func(l *letter.Letter) { l.First = 0 }, func(l *letter.Letter) { l.First = 1 }, func(l *letter.Letter) { l.First = stamps }, func(l *letter.Letter) { l.Stamp = 0 }, func(l *letter.Letter) { l.Stamp = 1 }, func(l *letter.Letter) { l.Stamp = stamps },
	} {
		all = append(all, with(offer(), c))
	}
	return append(append(all, goodUpdates()...), goodWriteLists()...)
}

func goodUpdates() []letter.Letter {
	var all []letter.Letter
	var every []int
	for i := range places {
		every = append(every, i)
	}
	for _, l := range []letter.Letter{update(), snap()} {
		for _, c := range []func(l *letter.Letter){
			func(l *letter.Letter) { l.Stamp = 0 }, func(l *letter.Letter) { l.Stamp = stamps }, func(l *letter.Letter) { l.Taken = 0 }, func(l *letter.Letter) { l.Taken = 1 }, func(l *letter.Letter) { l.Taken = stamps },
			func(l *letter.Letter) { l.Start, l.End, l.Lines = 0, 0, nil }, func(l *letter.Letter) { l.Start, l.End, l.Lines = places, places, nil }, func(l *letter.Letter) { l.Start, l.End, l.Lines = 0, places, nil }, func(l *letter.Letter) { l.Start, l.End, l.Lines = 7, 7, nil },
			func(l *letter.Letter) { l.Start, l.End, l.Lines = 0, places, lines(0, places-1) }, func(l *letter.Letter) { l.Start, l.End, l.Lines = 7, 8, lines(7) }, func(l *letter.Letter) { l.Start, l.End, l.Lines = 0, 1, lines(0) }, func(l *letter.Letter) { l.Start, l.End, l.Lines = places-1, places, lines(places-1) },
			func(l *letter.Letter) { l.Start, l.End, l.Lines = 254, 258, lines(254, 255, 256, 257) }, func(l *letter.Letter) { l.Start, l.End, l.Lines = 0, 1500, lines(every[:1500]...) },
			func(l *letter.Letter) { l.Lines = nil }, func(l *letter.Letter) {
				l.Lines = []roll.Line{{At: 20, Write: del(1, 1, "k")}, {At: 21, Write: del(1, 1, "k")}}
			},
		} {
			all = append(all, with(l, c))
		}
	}
	for _, c := range []func(l *letter.Letter){
		func(l *letter.Letter) { l.Cells = nil }, func(l *letter.Letter) { l.Lasts = roll.Lasts{} }, func(l *letter.Letter) { l.Cells, l.Lasts = nil, roll.Lasts{} }, func(l *letter.Letter) { l.Lasts = roll.Lasts{0, 40, 40, 40, 40, 40, 40, 40, 40, 40, 40, 40} }, func(l *letter.Letter) { l.Lasts = roll.Lasts{11: 1} },
		func(l *letter.Letter) { l.Cells = []api.Cell{{Key: "a", Value: num(0)}} },
	} {
		all = append(all, with(snap(), c))
	}
	return all
}

// goodWriteLists: of the kinds that have writes.
func goodWriteLists() []letter.Letter {
	var all []letter.Letter
	for _, l := range []letter.Letter{offer(), update(), snap()} {
		for _, n := range []int{0, 1, 255, 256, 511, 512} {
			all = append(all, with(l, func(l *letter.Letter) { l.Writes = someWrites(n) }))
		}
		all = append(all, with(l, func(l *letter.Letter) { l.Writes = []api.Write{del(5, 1, "k"), del(5, 1, "k"), del(1, 9, "a")} }))
	}
	return all
}

// badWrites: none of them good.
func badWrites() []api.Write {
	l := []api.Write{{}, del(0, 1, "k"), del(12, 1, "k"), del(-1, 1, "k"), del(1, 0, "k"), del(1, 41, "k"), del(1, -1, "k"), del(1, 1, ""), del(1, 1, "K"), del(1, 1, sized(21)), put(1, 1, "k", api.Value{}), put(1, 1, "k", text(sized(41))), put(1, 1, "k", api.Value{Kind: 3}), put(1, 1, "k", api.Value{Kind: api.Int, Text: "x"})}
	for _, o := range []api.Op{{Key: "k"}, {Kind: 5, Key: "k"}, {Kind: api.Del, Key: "k", A: num(1)}, {Kind: api.Add, Key: "k", A: text("a")}, {Kind: api.Put, Key: "k", A: num(1), B: num(1)}} {
		l = append(l, api.Write{Id: api.Id{Dev: 1, Seq: 1}, Op: o})
	}
	return l
}

// A letter that isn't good, and why.
type bad struct {
	why string
	l   letter.Letter
}

// badNumbers: of each kind, what each letter has.
func badNumbers() []bad {
	var all []bad
	add := func(l letter.Letter, why string, change func(l *letter.Letter)) {
		all = append(all, bad{fmt.Sprintf("kind %d: %s", l.Kind, why), with(l, change)})
	}
	for _, l := range kinds() {
		for _, n := range []int{least, -256, -1, 0, 5, 6, 255, 256 + l.Kind, 1<<32 + l.Kind, greatest} {
			add(l, fmt.Sprint("kind ", n), func(l *letter.Letter) { l.Kind = n })
		}
		for n := range 12 {
			add(l, fmt.Sprint("from and to ", n), func(l *letter.Letter) { l.From, l.To = n, n })
		}
		for _, n := range []int{least, -12, -1, 12, 13, 256, 1 << 32, greatest} {
			add(l, fmt.Sprint("from ", n), func(l *letter.Letter) { l.From = n })
			add(l, fmt.Sprint("to ", n), func(l *letter.Letter) { l.To = n })
		}
		for _, n := range []int{least, -1, 0, lives + 1, 1 << 32, greatest} {
			add(l, fmt.Sprint("life ", n), func(l *letter.Letter) { l.Life = n })
		}
		for _, n := range []int{least, -1, 0, turns + 1, lives, greatest} {
			add(l, fmt.Sprint("turn ", n), func(l *letter.Letter) { l.Turn = n })
		}
	}
	return all
}

// badPlaces: what the kinds use, outside of where it may be.
func badPlaces() []bad {
	var all []bad
	add := func(l letter.Letter, why string, change func(l *letter.Letter)) {
		all = append(all, bad{fmt.Sprintf("kind %d: %s", l.Kind, why), with(l, change)})
	}
	for _, n := range []int{least, -1, places + 1, 1 << 16, greatest} {
		add(hello(), fmt.Sprint("prefix ", n), func(l *letter.Letter) { l.Prefix = n })
		add(offer(), fmt.Sprint("prefix ", n), func(l *letter.Letter) { l.Prefix, l.Low = n, 0 })
		add(offer(), fmt.Sprint("prefix and low ", n), func(l *letter.Letter) { l.Prefix, l.Low = n, n })
		add(offer(), fmt.Sprint("low ", n), func(l *letter.Letter) { l.Low = n })
		for _, l := range []letter.Letter{update(), snap()} {
			add(l, fmt.Sprint("start ", n), func(l *letter.Letter) { l.Start, l.Lines = n, nil })
			add(l, fmt.Sprint("end ", n), func(l *letter.Letter) { l.End, l.Lines = n, nil })
			add(l, fmt.Sprint("end with lines ", n), func(l *letter.Letter) { l.End = n })
			add(l, fmt.Sprint("start and end ", n), func(l *letter.Letter) { l.Start, l.End, l.Lines = n, n, nil })
			add(l, fmt.Sprint("a line at ", n), func(l *letter.Letter) { l.Start, l.End, l.Lines = n, n+1, lines(n) })
		}
	}
	for _, x := range [][2]int{{0, 1}, {299, 300}, {300, 301}, {4095, 4096}, {0, 4096}} {
		add(offer(), fmt.Sprint("prefix, low ", x), func(l *letter.Letter) { l.Prefix, l.Low = x[0], x[1] })
		for _, l := range []letter.Letter{update(), snap()} {
			add(l, fmt.Sprint("end, start ", x), func(l *letter.Letter) { l.End, l.Start, l.Lines = x[0], x[1], nil })
		}
	}
	for _, n := range []int{least, -1, stamps + 1, greatest} {
		add(offer(), fmt.Sprint("first ", n), func(l *letter.Letter) { l.First = n })
		add(offer(), fmt.Sprint("stamp ", n), func(l *letter.Letter) { l.Stamp = n })
		for _, l := range []letter.Letter{update(), snap()} {
			add(l, fmt.Sprint("stamp ", n), func(l *letter.Letter) { l.Stamp = n })
			add(l, fmt.Sprint("taken ", n), func(l *letter.Letter) { l.Taken = n })
		}
	}
	return all
}

// badLists: what the kinds use, not good.
func badLists() []bad {
	var all []bad
	add := func(l letter.Letter, why string, change func(l *letter.Letter)) {
		all = append(all, bad{fmt.Sprintf("kind %d: %s", l.Kind, why), with(l, change)})
	}
	for _, r := range []api.Reach{{"b", "a"}, {"a", "a"}, {"a", "a.x"}, {"", "a"}, {"", ""}, {"A"}, {"a b"}, {"\xff"}, {"a", "_"}, {sized(21)}, {"a", "c", "b"}, {"a", "b", "c", "d", "e", "f", "g"}} {
		add(hello(), fmt.Sprintf("reach %q", r), func(l *letter.Letter) { l.Reach = r })
	}
	for _, l := range []letter.Letter{offer(), update(), snap()} {
		for _, n := range []int{513, 514, 600, 1025} {
			add(l, fmt.Sprint("writes ", n), func(l *letter.Letter) { l.Writes = someWrites(n) })
		}
		for i, w := range badWrites() {
			for at := range 3 {
				add(l, fmt.Sprint("bad write ", i, " at ", at), func(l *letter.Letter) { l.Writes = slices.Insert(someWrites(2), at, w) })
			}
		}
	}
	for _, l := range []letter.Letter{update(), snap()} {
		for _, at := range [][]int{{19}, {25}, {0}, {26}, {19, 20}, {24, 25}, {20, 24, 25}, {19, 22, 24}, {22, 21}, {21, 21}, {20, 22, 22}, {20, 24, 22}, {-1}, {4096}, {least}, {greatest}} {
			add(l, fmt.Sprint("lines at ", at), func(l *letter.Letter) { l.Lines = lines(at...) })
		}
		for i, w := range badWrites() {
			for at := range 3 {
				add(l, fmt.Sprint("bad line ", i, " at ", at), func(l *letter.Letter) { l.Lines[at].Write = w })
			}
		}
		add(l, "a line where there is no place", func(l *letter.Letter) { l.Start, l.End, l.Lines = 20, 20, lines(20) })
		add(l, "a line where nothing is known", func(l *letter.Letter) { l.Start, l.End, l.Lines = 0, 0, lines(0) })
	}
	five := num(5)
	for i, c := range [][]api.Cell{{{}}, {{Key: "a"}}, {{Key: "", Value: five}}, {{Key: "A", Value: five}}, {{Key: sized(21), Value: five}}, {{Key: "b", Value: five}, {Key: "a", Value: five}}, {{Key: "a", Value: five}, {Key: "a", Value: five}}, {{Key: "a", Value: five}, {Key: "b"}},
		{{Key: "a", Value: text(sized(41))}}, {{Key: "a", Value: api.Value{Kind: 3}}}, {{Key: "a", Value: api.Value{Kind: api.Int, Text: "x"}}}, {{Key: "a", Value: api.Value{Kind: api.Text, Num: 1}}}, {{Key: "a", Value: api.Value{Kind: -1}}}, {{Key: "a", Value: api.Value{Num: 1}}}} {
		add(snap(), fmt.Sprint("cells ", i), func(l *letter.Letter) { l.Cells = c })
	}
	for _, x := range []roll.Lasts{{1}, {40, 40}, {-1}, {0, 41}, {0, -1}, {11: 41}, {11: -1}, {0, greatest}, {0, least}} {
		add(snap(), fmt.Sprint("lasts ", x), func(l *letter.Letter) { l.Lasts = x })
	}
	return all
}

// A part of a letter: which kinds use it, and how it is something else than 0, or empty, as it may be where it is used.
type part struct {
	name string
	uses []int
	set  func(l *letter.Letter)
}

func parts() []part {
	const snapped = 99 // an Update with Snap alone
	return []part{
		{"Prefix", []int{letter.Hello, letter.Offer}, func(l *letter.Letter) { l.Prefix = 4000 }},
		{"Low", []int{letter.Offer}, func(l *letter.Letter) { l.Low = 1 }},
		{"First", []int{letter.Offer}, func(l *letter.Letter) { l.First = 1 }},
		{"Stamp", []int{letter.Offer, letter.Update, snapped}, func(l *letter.Letter) { l.Stamp = 1 }},
		{"Taken", []int{letter.Update, snapped}, func(l *letter.Letter) { l.Taken = 1 }},
		{"Start", []int{letter.Update, snapped}, func(l *letter.Letter) { l.Start = 1 }},
		{"End", []int{letter.Update, snapped}, func(l *letter.Letter) { l.End = 4000 }},
		{"Snap", []int{letter.Update, snapped}, func(l *letter.Letter) { l.Snap = true }},
		{"Reach", []int{letter.Hello}, func(l *letter.Letter) { l.Reach = api.Reach{""} }},
		{"Writes", []int{letter.Offer, letter.Update, snapped}, func(l *letter.Letter) { l.Writes = someWrites(1) }},
		{"Lines", []int{letter.Update, snapped}, func(l *letter.Letter) { l.Lines = lines(20) }},
		{"Cells", []int{snapped}, func(l *letter.Letter) { l.Cells = someCells() }},
		{"Lasts", []int{snapped}, func(l *letter.Letter) { l.Lasts[1] = 1 }},
		{"Lasts of the last", []int{snapped}, func(l *letter.Letter) { l.Lasts[11] = 40 }},
	}
}

// used tells whether a letter's kind uses a part.
func (p part) used(l letter.Letter) bool {
	if l.Snap {
		return slices.Contains(p.uses, 99)
	}
	return slices.Contains(p.uses, l.Kind)
}

// unusedParts: of each kind, what it doesn't use, alone.
func unusedParts() []bad {
	var all []bad
	for _, l := range kinds() {
		for _, p := range parts() {
			if !p.used(l) {
				all = append(all, bad{fmt.Sprintf("kind %d, snap %v: %s", l.Kind, l.Snap, p.name), with(l, p.set)})
			}
		}
	}
	// Places that are such, but for a kind that uses none.
	for _, l := range []letter.Letter{hello(), offer(), reset()} {
		all = append(all, bad{fmt.Sprintf("kind %d: Start and End", l.Kind), with(l, func(l *letter.Letter) { l.Start, l.End = 9, 9 })})
		all = append(all, bad{fmt.Sprintf("kind %d: End and Lines", l.Kind), with(l, func(l *letter.Letter) { l.End, l.Lines = 9, lines(8) })})
		all = append(all, bad{fmt.Sprintf("kind %d: Snap and Cells", l.Kind), with(l, func(l *letter.Letter) { l.Snap, l.Cells = true, someCells() })})
		all = append(all, bad{fmt.Sprintf("kind %d: Snap and Lasts", l.Kind), with(l, func(l *letter.Letter) { l.Snap, l.Lasts = true, roll.Lasts{0, 1} })})
	}
	for _, l := range []letter.Letter{update(), snap(), reset()} {
		all = append(all, bad{fmt.Sprintf("kind %d: Prefix and Low", l.Kind), with(l, func(l *letter.Letter) { l.Prefix, l.Low = 9, 9 })})
	}
	all = append(all, bad{"an Update without Snap: Cells and Lasts", with(snap(), func(l *letter.Letter) { l.Snap = false })})
	for _, l := range kinds() { // of a kind that is another one's
		for kind := 1; kind <= 4; kind++ {
			if x := with(l, func(l *letter.Letter) { l.Kind = kind }); kind != l.Kind && l.Kind != letter.Reset {
				all = append(all, bad{fmt.Sprintf("what kind %d uses, of kind %d", l.Kind, kind), x})
			}
		}
	}
	return all
}

func badLetters() []bad {
	return slices.Concat(badNumbers(), badPlaces(), badLists(), unusedParts(), []bad{{"the zero letter", letter.Letter{}}})
}

func TestP8_1_GoodLetters(t *testing.T) {
	for _, l := range goodLetters() {
		if !letter.Good(l) || !handGood(l) {
			t.Errorf("%s: not good (by hand %v)", tell(l), handGood(l))
		}
	}
	for _, l := range kinds() {
		for _, p := range parts() {
			if x := with(l, p.set); p.used(l) && !letter.Good(x) {
				t.Errorf("kind %d, which uses %s: not good", l.Kind, p.name)
			}
		}
	}
}

func TestP8_1_LettersThatArentGood(t *testing.T) {
	for _, x := range badLetters() {
		if letter.Good(x.l) || handGood(x.l) {
			t.Errorf("%s: good (by hand %v)", x.why, handGood(x.l))
		}
		if b, e := letter.Encode(x.l); e != api.ErrForm || len(b) != 0 {
			t.Errorf("%s: Encode: %s, %d", x.why, short(b), e)
		}
	}
}

// P8.1: what isn't good, put by hand, isn't decoded; but for what of it doesn't stand in bytes (the text of an int, what of a kind a byte hasn't).
func TestP8_1_BytesOfLettersThatArentGood(t *testing.T) {
	all, refused := badLetters(), 0
	for _, x := range all {
		if look(t, handBytes(x.l)) == api.ErrForm {
			refused++
		}
	}
	if len(all)-refused > 25 {
		t.Errorf("of %d letters' bytes only %d are refused", len(all), refused)
	}
}

// P8.1: the bytes of some letters, as they are written down here.
func TestP8_1_Bytes(t *testing.T) {
	noughts := func(n int) []byte { return make([]byte, n) }
	del := of(1, 2, 1, 9, 1, 2, 1, 1, "k", 0, 0)
	w := api.Write{Id: api.Id{Dev: 2, Seq: 9}, Op: api.Op{Kind: api.Del, Key: "k"}}
	for _, c := range []struct {
		l letter.Letter
		b []byte
	}{
		{letter.Letter{Kind: 4, From: 0, To: 3, Life: 2, Turn: 1}, of(0, 1, 3, 1, 2, 1, 1, noughts(7), 0, noughts(4), noughts(12))}, // the chapter's example
		{letter.Letter{Kind: 1, From: 3, To: 0, Life: 300, Turn: 65536, Prefix: 4096, Reach: api.Reach{"a", "b.x"}}, of(1, 3, 0, 2, 1, 44, 3, 1, 0, 0, 2, 16, 0, noughts(6), 0, 1, 2, 1, 1, "a", 1, 3, "b.x", noughts(3), noughts(12))},
		{letter.Letter{Kind: 2, From: 11, To: 1, Life: 1, Turn: 1, Prefix: 5, Low: 4, First: 3, Stamp: 1 << 40, Writes: []api.Write{w}}, of(1, 11, 1, 1, 1, 1, 1, 1, 1, 5, 1, 4, 1, 3, 6, 1, 0, 0, 0, 0, 0, noughts(3), 0, 0, 1, 1, del, 0, 0, noughts(12))},
		{letter.Letter{Kind: 3, From: 1, To: 11, Life: 1, Turn: 1, Stamp: 7, Taken: 6, Start: 2, End: 9, Lines: []roll.Line{{At: 2, Write: w}, {At: 8, Write: w}}, Writes: []api.Write{w}}, of(1, 1, 1, 11, 1, 1, 1, 1, noughts(3), 1, 7, 1, 6, 1, 2, 1, 9, 0, 0, 1, 1, del, 1, 2, 1, 2, del, 1, 8, del, 0, noughts(12))},
		{letter.Letter{Kind: 3, From: 1, To: 11, Life: 1, Turn: 1, Stamp: 7, Start: 9, End: 9, Snap: true, Cells: []api.Cell{{Key: "a", Value: num(5)}}, Lasts: roll.Lasts{0, 40, 11: 3}}, of(1, 1, 1, 11, 1, 1, 1, 1, noughts(3), 1, 7, 0, 1, 9, 1, 9, 1, 0, 0, 0, 1, 1, 1, 1, "a", 1, 1, 1, 10, 0, 1, 40, noughts(9), 1, 3)},
	} {
		want := framed(c.l.Kind, c.b)
		if b, e := letter.Encode(c.l); e != api.OK || !bytes.Equal(b, want) {
			t.Errorf("Encode of %s: %s, %d, want %s", tell(c.l), short(b), e, short(want))
		}
		if l, e := letter.Decode(want); e != api.OK || !same(l, c.l) {
			t.Errorf("Decode of %s: %s, %d", short(want), tell(l), e)
		}
	}
}

// P8.1: of all samples the bytes are those that are put by hand.
func TestP8_1_EncodeAsByHand(t *testing.T) {
	for _, l := range goodLetters() {
		if b, e := letter.Encode(l); e != api.OK || !bytes.Equal(b, handBytes(l)) {
			t.Errorf("Encode of %s: %s, %d", tell(l), short(b), e)
		}
	}
}

// full is an Update with Snap, of so many bytes inside.
func full(t *testing.T, size int) letter.Letter {
	t.Helper()
	l := with(snap(), func(l *letter.Letter) { l.Cells, l.Writes = nil, someWrites(512) })
	left := size - len(handInside(l)) - 2 // how many cells takes two bytes more than 0 does
	for i := 0; left >= 50; i++ {
		c := api.Cell{Key: string(of('b'+i/26/26/26, 'a'+i/26/26%26, 'a'+i/26%26, 'a'+i%26)), Value: text(sized(api.MaxText))}
		l.Cells = append(l.Cells, c)
		left -= len(handCell(c))
	}
	for i := 0; left > 0; i++ {
		n := min(left, 16)
		l.Cells[i].Key += sized(n)
		left -= n
	}
	if n := len(handInside(l)); n != size || !handGood(l) {
		t.Fatalf("%d bytes inside, not %d, or not good", n, size)
	}
	return l
}

// P8.1: as many bytes as a frame may have, and more.
func TestP8_1_TooManyBytes(t *testing.T) {
	for size := api.MaxFrame - 60; size <= api.MaxFrame; size++ {
		l := full(t, size)
		b, e := letter.Encode(l)
		if e != api.OK || !bytes.Equal(b, handBytes(l)) {
			t.Fatalf("Encode of %d bytes inside: %d bytes, %d", size, len(b), e)
		}
		if x, e := letter.Decode(b); e != api.OK || !same(x, l) {
			t.Fatalf("Decode of %d bytes inside: %d", size, e)
		}
	}
	for _, size := range []int{api.MaxFrame + 1, api.MaxFrame + 2, api.MaxFrame + 999, 1 << 17, 1 << 20} {
		l := full(t, size)
		if b, e := letter.Encode(l); !letter.Good(l) || e != api.ErrFull || len(b) != 0 {
			t.Errorf("Encode of %d bytes inside: %d bytes, %d", size, len(b), e)
		}
		if x, e := letter.Decode(handBytes(l)); e != api.ErrForm || !zero(x) {
			t.Errorf("Decode of %d bytes inside: %d", size, e)
		}
	}
	var every []int
	for i := range places {
		every = append(every, i)
	}
	l := with(update(), func(l *letter.Letter) { l.Start, l.End, l.Lines = 0, places, lines(every...) })
	if b, e := letter.Encode(l); !letter.Good(l) || e != api.ErrFull || len(b) != 0 {
		t.Errorf("Encode of lines at all places: %d bytes, %d", len(b), e)
	}
}

// few: good letters whose bytes aren't too many to be looked at one by one.
func few() []letter.Letter {
	var all []letter.Letter
	for _, l := range goodLetters() {
		if len(handInside(l)) < 500 {
			all = append(all, l)
		}
	}
	return all
}

// P8.1: bytes that end early, or have more behind, in the frame or in what stands inside.
func TestP8_1_BytesFewerAndMore(t *testing.T) {
	for _, l := range few() {
		b, in := handBytes(l), handInside(l)
		for size := range b {
			if x, e := letter.Decode(b[:size]); e != api.ErrForm || !zero(x) {
				t.Fatalf("Decode of the first %d bytes of %s: %s, %d", size, short(b), tell(x), e)
			}
		}
		for size := range in {
			if x, e := letter.Decode(framed(l.Kind, in[:size])); e != api.ErrForm || !zero(x) {
				t.Fatalf("Decode of a frame of the first %d bytes inside %s: %s, %d", size, short(b), tell(x), e)
			}
		}
		for _, more := range [][]byte{of(0), of(1), of(255), of(0xe5), make([]byte, 9), b, in} {
			if x, e := letter.Decode(of(b, more)); e != api.ErrForm || !zero(x) {
				t.Errorf("Decode of %s, with %s behind: %s, %d", short(b), short(more), tell(x), e)
			}
			if x, e := letter.Decode(framed(l.Kind, of(in, more))); e != api.ErrForm || !zero(x) {
				t.Errorf("Decode of %s, with %s behind inside: %s, %d", short(b), short(more), tell(x), e)
			}
		}
	}
}

// P8.1: frame.Open's errors.
func TestP8_1_NoFrame(t *testing.T) {
	b := handBytes(offer())
	for i := range 4 {
		x := of(b)
		x[len(x)-1-i] ^= 64
		if l, e := letter.Decode(x); e != api.ErrSum || !zero(l) {
			t.Errorf("Decode of another sum: %s, %d", tell(l), e)
		}
	}
	for _, x := range [][]byte{nil, of(0), of(0xe4, b[1:]), b[1:], of(b[:2], 2, b[3:]), of(b[:4], int(b[4])+1, b[5:]), of(b[:4], int(b[4])-1, b[5:])} {
		if l, e := letter.Decode(x); e != api.ErrForm || !zero(l) {
			t.Errorf("Decode of %s: %s, %d", short(x), tell(l), e)
		}
	}
}

// P8.1: frames of all kinds, of what stands in letters.
func TestP8_1_FramesOfOtherKinds(t *testing.T) {
	for _, l := range kinds() {
		for kind := range 256 {
			x, e := letter.Decode(framed(kind, handInside(l)))
			good := kind == l.Kind
			if l.Kind == letter.Reset { // has nothing, which each kind may have
				good = kind >= 1 && kind <= 4
			}
			if good != (e == api.OK) || !good && (e != api.ErrForm || !zero(x)) || good && !same(x, with(l, func(l *letter.Letter) { l.Kind = kind })) {
				t.Errorf("what stands in kind %d, in a frame of kind %d: %s, %d", l.Kind, kind, tell(x), e)
			}
		}
	}
}

// numbersOf are the eleven numbers as they stand at the front of bytes inside, and what stands behind them.
func numbersOf(in []byte) ([][]byte, []byte) {
	var all [][]byte
	for range 11 {
		n := 1 + int(in[0])
		all = append(all, in[:n])
		in = in[n:]
	}
	return all, in
}

// P8.1: numbers, and a flag, that stand there in another way, or above what may be, or that are none.
func TestP8_1_OtherNumbersAndFlags(t *testing.T) {
	for _, l := range kinds() {
		all, behind := numbersOf(handInside(l))
		for i := range all {
			for _, b := range [][]byte{of(1, 0), of(2, 0, 1), of(8, 0, 0, 0, 0, 0, 0, 0, 1), of(9, 1, 1, 1, 1, 1, 1, 1, 1, 1), of(255), of(8, 255, 255, 255, 255, 255, 255, 255, 255), of(8, 128, 0, 0, 0, 0, 0, 0, 1), of(7, 1, 0, 0, 0, 0, 0, 1), of(6, 1, 0, 0, 0, 0, 1)} {
				changed := slices.Clone(all)
				changed[i] = b
				x := framed(l.Kind, of(slices.Concat(changed...), behind))
				if l, e := letter.Decode(x); e != api.ErrForm || !zero(l) {
					t.Errorf("kind %d, number %d: %s, %d", l.Kind, i, tell(l), e)
				}
			}
		}
		for flag := range 256 {
			x := framed(l.Kind, of(slices.Concat(all...), flag, behind[1:]))
			e := look(t, x)
			if flag > 1 && e != api.ErrForm {
				t.Errorf("kind %d, a flag of %d: %d", l.Kind, flag, e)
			}
		}
	}
}

// P8.1: lists that tell more than there are.
func TestP8_1_ListsOfMore(t *testing.T) {
	for _, count := range [][]byte{of(1, 1), of(1, 255), of(2, 2, 0), of(2, 2, 1), of(8, 127, 255, 255, 255, 255, 255, 255, 255), of(8, 255, 255, 255, 255, 255, 255, 255, 255), of(1, 0), of(9)} {
		for _, l := range kinds() {
			all, _ := numbersOf(handInside(with(l, func(l *letter.Letter) { l.Reach, l.Writes, l.Lines, l.Cells = nil, nil, nil, nil })))
			flag := 0
			if l.Snap {
				flag = 1
			}
			for i := range 4 {
				lists := [][]byte{of(0), of(0), of(0), of(0)}
				lists[i] = count
				for _, behind := range [][]byte{nil, make([]byte, 12), bytes.Repeat(of(1, 1), 99)} {
					x := framed(l.Kind, of(slices.Concat(all...), flag, slices.Concat(lists...), behind))
					if y, e := letter.Decode(x); e != api.ErrForm || !zero(y) {
						t.Errorf("kind %d, list %d told as %v: %s, %d", l.Kind, i, count, tell(y), e)
					}
				}
			}
		}
	}
}

// P8.1: of bytes that are anything the answer is that of what is decoded by hand.
func TestP8_1_AnyBytes(t *testing.T) {
	had := map[api.Errno]int{}
	kind := map[byte]int{}
	for _, b := range randomBytes() {
		e := look(t, b)
		had[e]++
		if e == api.OK {
			kind[b[1]]++
		}
	}
	if had[api.OK] < 1000 || had[api.ErrForm] < 5000 || min(kind[1], kind[2], kind[3], kind[4]) < 50 {
		t.Errorf("only so many errors: %v; of those decoded, kinds: %v", had, kind)
	}
}

// P8.2: what is encoded is decoded.
func TestP8_2_WhatIsEncodedIsDecoded(t *testing.T) {
	for _, l := range goodLetters() {
		b, e := letter.Encode(l)
		x, f := letter.Decode(b)
		if e != api.OK || f != api.OK || !same(x, l) {
			t.Errorf("%s: %d; decoded: %s, %d", tell(l), e, tell(x), f)
		}
	}
}

// P8.2: no two letters have the same bytes, and bytes that are decoded are just their letter's.
func TestP8_2_JustThatLetters(t *testing.T) {
	had := map[string]letter.Letter{}
	for _, l := range goodLetters() {
		b, _ := letter.Encode(l)
		if x, has := had[string(b)]; has && !same(x, l) {
			t.Errorf("%s and %s have the same bytes", tell(l), tell(x))
		}
		had[string(b)] = l
	}
	decoded := 0
	for _, b := range randomBytes() {
		l, e := letter.Decode(b)
		if e != api.OK {
			continue
		}
		decoded++
		if x, f := letter.Encode(l); f != api.OK || !bytes.Equal(x, b) {
			t.Fatalf("%s is decoded; encoded again: %s, %d", short(b), short(x), f)
		}
	}
	if decoded < 1000 {
		t.Errorf("only %d bytes were decoded", decoded)
	}
}

// P8.2: bytes of which one bit is turned aren't decoded: each bit of those that aren't too many, of others some.
func TestP8_2_ABitTurned(t *testing.T) {
	for _, l := range goodLetters() {
		b, _ := letter.Encode(l)
		step := 1 + len(b)/900*61
		for bit := 0; bit < 8*len(b); bit += step {
			b[bit/8] ^= 1 << (bit % 8)
			if x, e := letter.Decode(b); e != api.ErrForm && e != api.ErrSum || !zero(x) {
				t.Fatalf("%s with bit %d turned: %s, %d", tell(l), bit, tell(x), e)
			}
			b[bit/8] ^= 1 << (bit % 8)
		}
		if x, e := letter.Decode(b); e != api.OK || !same(x, l) {
			t.Fatalf("%s with no bit turned: %d", tell(l), e)
		}
	}
}
