package roll_test

import (
	"bytes"
	"math"
	"slices"
	"strconv"
	"strings"
	"testing"
	"unsafe"

	"spinney/api"
	"spinney/pack"
	"spinney/roll"
)

// badCells: lists of which none is good.
func badCells() [][]api.Cell {
	l := [][]api.Cell{{{}}, {{Key: "a", Value: num(1)}, {Key: "a", Value: num(1)}}}
	for _, n := range []int{least, -1, 0, 3, greatest} {
		l = append(l, []api.Cell{{Key: strings.Repeat("\xff", 1000), Value: api.Value{Kind: api.Kind(n), Num: n, Text: sized(1000)}}, {Key: "", Value: text(sized(1 << 16))}})
	}
	return l
}

// badLines: likewise.
func badLines() [][]roll.Line {
	var l [][]roll.Line
	for i, w := range badWrites() {
		l = append(l, []roll.Line{{At: []int{least, -1, 0, 4096, greatest}[i%5], Write: w}, {At: 5, Write: w}})
	}
	return l
}

// badLasts: likewise.
func badLasts() []roll.Lasts {
	var l []roll.Lasts
	for i, n := range []int{least, -1, 1, 41, greatest} {
		x := roll.Lasts{0, 1, 2}
		x[i%2*5] = n
		if n == 1 {
			x[0] = n
		}
		l = append(l, x)
	}
	return l
}

// All calls end, and none panics: those that look at what is good are asked of what isn't; the Puts put that somehow, too.
func TestP9_AnyArguments(t *testing.T) {
	for _, b := range [][]byte{nil, {}, of(1, 2, 3), make([]byte, 3, 900)} {
		for i, l := range badCells() {
			if roll.GoodCells(l) || len(roll.PutCells(b, l)) <= len(b) {
				t.Errorf("cells %d: good, or not put", i)
			}
		}
		for i, l := range badLines() {
			if roll.GoodLines(l) || len(roll.PutLines(b, l)) <= len(b) || len(roll.Writes(l)) != len(l) {
				t.Errorf("lines %d: good, or not put", i)
			}
		}
		for _, l := range badLasts() {
			if roll.GoodLasts(l) || len(roll.PutLasts(b, l)) <= len(b) {
				t.Errorf("%v: good, or not put", l)
			}
		}
		roll.PutReach(b, api.Reach{sized(1 << 16), "A", "\xff", "a", "a", "a", "a", "a", "a"})
	}
	for _, b := range [][]byte{nil, {}, bytes.Repeat(of(0), 1<<16), bytes.Repeat(of(1), 1<<16), bytes.Repeat(of(255), 1<<16), of(8, bytes.Repeat(of(255), 1<<16)), of(8, 127, bytes.Repeat(of(255), 7), bytes.Repeat(of(1), 1<<16))} {
		look(t, b)
		for c := range 256 {
			look(t, of(c, b[:min(len(b), 99)]))
		}
	}
	for i, k := range kinds() {
		if x := k.take(new(pack.Reader)); x.e == api.OK || x != zeros()[i] {
			t.Errorf("%s of an empty reader: %d", k.name, x.e)
		}
	}
}

// Many cells end soon, too, and so do many that are told, of which few stand there.
func TestP9_ManyCells(t *testing.T) {
	const many = 1 << 17
	var l []api.Cell
	for i := range many {
		l = append(l, api.Cell{Key: strconv.Itoa(many + i), Value: num(i)})
	}
	b := roll.PutCells(nil, l)
	if !roll.GoodCells(l) || !bytes.Equal(b, handCells(l)) {
		t.Fatal("many cells aren't good, or are put otherwise")
	}
	r := pack.Open(b)
	if x, e := roll.TakeCells(r); !slices.Equal(x, l) || e != api.OK || r.End() != api.OK {
		t.Errorf("many cells: %d, %d", len(x), e)
	}
	r = pack.Open(of(8, bytes.Repeat(of(255), 8), b[4:]))
	if x, e := roll.TakeCells(r); len(x) != 0 || e != api.ErrForm {
		t.Errorf("many cells, of which more are told: %d, %d", len(x), e)
	}
}

// R1.
func TestP10_R1_IntHas64Bits(t *testing.T) {
	if strconv.IntSize != 64 {
		t.Errorf("an int has %d bits", strconv.IntSize)
	}
	for _, n := range []int{1<<32 + 1, -1<<32 - 1, greatest, least} {
		l := []api.Cell{{Key: "k", Value: num(n)}}
		if x, e := roll.TakeCells(pack.Open(roll.PutCells(nil, l))); !slices.Equal(x, l) || e != api.OK {
			t.Errorf("%d: %v, %d", n, x, e)
		}
		if roll.GoodLines([]roll.Line{{At: n, Write: del(1, 1, "k")}}) || roll.GoodLasts(roll.Lasts{0, n}) {
			t.Errorf("%d: a good place, or last", n)
		}
	}
}

// R2: this layer has one error alone: whatever is wrong in two ways is that.
func TestP10_R2_TheFirstError(t *testing.T) {
	for i, all := range [][][]byte{
		{of(1, 7, 9), of(1, 2, 1, 1, "b", 1, 1, "A"), of(1, 2, 1, 1, "b", 1, 1, "a", 9)[:7]},
		{of(1, 2, 1, 1, "A", 0, 9), of(1, 3, 1, 1, "b", 1, 1, 0, 1, 1, "a", 1, 1, 0)},
		{of(1, 1, 1, 41, 9), of(1, 1, 1, 1)},
		{of(1, 2, 2, 16, 0, 9), of(1, 2, 1, 5, handWrite(del(1, 1, "k")), 1, 4, 9)},
	} {
		for _, b := range all {
			if x := kinds()[i].take(pack.Open(b)); x.e != api.ErrForm {
				t.Errorf("%s of %v: %d", kinds()[i].name, b, x.e)
			}
		}
	}
}

// R3: beside an error stands the zero value, however much of the thing is good.
func TestP10_R3_BesideAnError(t *testing.T) {
	for i, k := range kinds() {
		failed := 0
		for _, put := range k.puts {
			b := put(nil)
			for at := range min(len(b), 120) {
				for _, c := range []int{0, 3, 9, 41, 255} {
					x := k.take(pack.Open(of(b[:at], c, b[at+1:])))
					if x.e == api.OK {
						continue
					}
					failed++
					if x != zeros()[i] {
						t.Fatalf("%s: beside %d stands %s", k.name, x.e, short(x.told))
					}
				}
			}
		}
		if failed < 100 {
			t.Errorf("%s: only %d errors", k.name, failed)
		}
	}
	k := of(handWrite(del(1, 1, "k")))
	for i, b := range [][]byte{of(1, 2, 1, 1, "b", 1, 1, "a"), of(1, 2, 1, 1, "b", 1, 1, 0, 1, 1, "a", 1, 1, 0), of(1, 1, bytes.Repeat(of(1, 7), 11)), of(1, 2, 1, 5, k, 1, 5, k)} { // all of them read to their ends
		r := pack.Open(b)
		if x := kinds()[i].take(r); x != zeros()[i] {
			t.Errorf("%s of %v: %s, %d", kinds()[i].name, b, short(x.told), x.e)
		}
	}
}

// R4, R8: nothing is kept but what a reader has: whatever was asked between, an answer is what it was.
func TestP10_R4_R8_TheSameAgain(t *testing.T) {
	all := randomBytes()[:2000]
	ask := func(b []byte) (l [4]taken) {
		for i, k := range kinds() {
			l[i] = k.take(pack.Open(b))
		}
		return l
	}
	var first [][4]taken
	for _, b := range all {
		first = append(first, ask(b))
	}
	for i := len(all) - 1; i >= 0; i-- {
		if ask(all[i]) != first[i] {
			t.Errorf("%s: another answer", short(all[i]))
		}
	}
	for _, k := range kinds() {
		for i, put := range k.puts {
			if !bytes.Equal(put(of(7)), of(7, put(nil))) {
				t.Errorf("%s %d: put otherwise", k.name, i)
			}
		}
	}
}

// R5: a list that is nil means the same as one that is empty.
func TestP10_R5_EmptyAndNil(t *testing.T) {
	cells, lines := cellLists()[1], lineLists()[1]
	for _, l := range [][]api.Cell{nil, {}, make([]api.Cell, 0, 9), cells[:0]} {
		if b := roll.PutCells(of(7), l); !roll.GoodCells(l) || !bytes.Equal(b, of(7, 0)) {
			t.Errorf("no cells %#v: %v", l, b)
		}
	}
	for _, l := range [][]roll.Line{nil, {}, make([]roll.Line, 0, 9), lines[:0]} {
		if b := roll.PutLines(of(7), l); !roll.GoodLines(l) || !bytes.Equal(b, of(7, 0)) || len(roll.Writes(l)) != 0 {
			t.Errorf("no lines %#v: %v", l, b)
		}
	}
	for _, r := range []api.Reach{nil, {}, make(api.Reach, 0, 9), api.Reach{"a"}[:0]} {
		if b := roll.PutReach(of(7), r); !bytes.Equal(b, of(7, 0)) {
			t.Errorf("no prefixes %#v: %v", r, b)
		}
	}
	for _, b := range [][]byte{nil, {}, make([]byte, 0, 99), of(1, 2, 3)[:0]} {
		for _, k := range kinds() {
			if !bytes.Equal(k.puts[1](b), k.puts[1](nil)) {
				t.Errorf("%s behind no bytes %#v: something else", k.name, b)
			}
		}
	}
}

// spacious: bytes with others in the spare room behind them.
func spacious(size, room int) []byte {
	b := make([]byte, 0, size+room)
	for i := range size + room {
		b = append(b, byte(100+i))
	}
	return b[:size]
}

// Things with others in their spare room, each text in memory of its own.
func roomyReach() api.Reach {
	return append(make(api.Reach, 0, 6), strings.Clone("a1"), strings.Clone("b1"), strings.Clone("c1"), strings.Clone("d1"))[:2]
}

func roomyCells() []api.Cell {
	l := make([]api.Cell, 0, 6)
	for i := range 6 {
		l = append(l, api.Cell{Key: string(of("key", 'a'+i)), Value: text(strings.Clone("some"))})
	}
	return l[:3]
}

func roomyLines() []roll.Line {
	l := make([]roll.Line, 0, 6)
	for i := range 6 {
		o := api.Op{Kind: api.Cas, Key: strings.Clone("key"), A: text(strings.Clone("old")), B: text(strings.Clone("new"))}
		l = append(l, roll.Line{At: i, Write: api.Write{Id: api.Id{Dev: 1, Seq: 1 + i}, Op: o}})
	}
	return l[:3]
}

// puts puts a thing of each kind behind b.
func puts(b []byte, r api.Reach, c []api.Cell, x []roll.Line) [][]byte {
	return [][]byte{roll.PutReach(b, r), roll.PutReach(b, nil), roll.PutCells(b, c), roll.PutCells(b, nil), roll.PutLasts(b, roll.Lasts{}), roll.PutLasts(b, roll.Lasts{0, 1, 2}), roll.PutLines(b, x), roll.PutLines(b, nil)}
}

func alike(a, b [][]byte) bool { return slices.EqualFunc(a, b, bytes.Equal) }

// P7.3, and R6: what is handed in stays, with its spare room, however great that is.
func TestP7_3_WhatIsHandedInStays(t *testing.T) {
	for _, size := range []int{0, 1, 7, 64} {
		for _, room := range []int{0, 1, 2, 3, 11, 12, 13, 100, 5000} {
			b, r, c, x := spacious(size, room), roomyReach(), roomyCells(), roomyLines()
			was := bytes.Clone(b[:cap(b)])
			for _, p := range puts(b, r, c, x) {
				if !bytes.Equal(p[:size], was[:size]) {
					t.Fatal("what was handed in isn't ahead")
				}
				clear(p[:cap(p)])
			}
			w := roll.Writes(x)
			clear(w[:cap(w)])
			if !roll.GoodCells(c) || !roll.GoodLines(x) || !roll.GoodLasts(roll.Lasts{}) {
				t.Fatal("they aren't good")
			}
			if !bytes.Equal(b[:cap(b)], was) || !slices.Equal(r[:4], roomyReach()[:4]) || !slices.Equal(c[:6], roomyCells()[:6]) || !slices.Equal(x[:6], roomyLines()[:6]) {
				t.Fatalf("with %d bytes of spare room: what was handed in has changed", room)
			}
		}
	}
	for _, k := range kinds() {
		for i, put := range k.puts {
			b := put(of(1, 1))
			was := bytes.Clone(b)
			k.take(pack.Open(b))
			k.take(pack.Open(b[2:]))
			if !bytes.Equal(b, was) {
				t.Errorf("%s %d: what was read has changed", k.name, i)
			}
		}
	}
}

// P7.3, and R6: what is put is new memory: writing to it, and to its spare room, changes nothing else.
func TestP7_3_AnswersAreNewMemory(t *testing.T) {
	for _, room := range []int{0, 1, 11, 12, 13, 5000} {
		b, r, c, x := spacious(7, room), roomyReach(), roomyCells(), roomyLines()
		first, again := puts(b, r, c, x), puts(b, r, c, x)
		for i, p := range first {
			clear(p[:cap(p)])
			if !alike(again, puts(b, r, c, x)) || !alike(first[i+1:], again[i+1:]) {
				t.Fatalf("answer %d shares memory", i)
			}
		}
	}
}

// P7.3: what grows behind one list twice is two lists.
func TestP7_3_TwoBehindOne(t *testing.T) {
	for _, k := range kinds() {
		for i, put := range k.puts {
			head := put(nil) // an answer may have spare room, too
			next := k.puts[(i+1)%len(k.puts)]
			x := put(head)
			was := bytes.Clone(x)
			if y := next(head); !bytes.Equal(x, was) || !bytes.Equal(y, of(head, next(nil))) {
				t.Fatalf("%s %d: behind one list it was changed by the next", k.name, i)
			}
		}
	}
}

// P7.3: what is taken, or put, follows nothing that was handed in.
func TestP7_3_NothingHandedInIsKept(t *testing.T) {
	r, c, x := roomyReach(), roomyCells(), roomyLines()
	put, w := puts(nil, r, c, x), roll.Writes(x)
	clear(r[:cap(r)])
	clear(c[:cap(c)])
	clear(x[:cap(x)])
	if !alike(put, puts(nil, roomyReach(), roomyCells(), roomyLines())) || !slices.Equal(w, roll.Writes(roomyLines())) {
		t.Error("answers have changed with what was handed in")
	}
	b := roll.PutLines(roll.PutCells(roll.PutReach(nil, roomyReach()), roomyCells()), roomyLines())
	reader := pack.Open(b)
	r, e := roll.TakeReach(reader)
	clear(b[:cap(b)])
	c, f := roll.TakeCells(reader)
	x, g := roll.TakeLines(reader)
	if !slices.Equal(r, roomyReach()) || !slices.Equal(c, roomyCells()) || !slices.Equal(x, roomyLines()) || e != api.OK || f != api.OK || g != api.OK {
		t.Errorf("what was taken has changed with the bytes: %v, %v, %v", r, c, x)
	}
}

// shares tells whether two texts have bytes of one memory.
func shares(a, b string) bool {
	if a == "" || b == "" {
		return false
	}
	x, y := uintptr(unsafe.Pointer(unsafe.StringData(a))), uintptr(unsafe.Pointer(unsafe.StringData(b)))
	return x < y+uintptr(len(b)) && y < x+uintptr(len(a))
}

func textsOf(l []api.Write) []string {
	var all []string
	for _, w := range l {
		all = append(all, w.Op.Key, w.Op.A.Text, w.Op.B.Text)
	}
	return all
}

// P7.3: the texts of answers are new memory, each of its own; nor do two lists that are taken share any.
func TestP7_3_Texts(t *testing.T) {
	lines := roomyLines()
	b := roll.PutLines(roll.PutCells(roll.PutReach(nil, roomyReach()), roomyCells()), lines)
	all := append([]string{unsafe.String(unsafe.SliceData(b), cap(b))}, textsOf([]api.Write{lines[0].Write, lines[1].Write, lines[2].Write})...)
	for range 2 {
		reader := pack.Open(b)
		r, _ := roll.TakeReach(reader)
		c, _ := roll.TakeCells(reader)
		x, _ := roll.TakeLines(reader)
		if len(r) != 2 || len(c) != 3 || len(x) != 3 || reader.End() != api.OK {
			t.Fatal("they weren't taken")
		}
		all = append(all, r...)
		for i := range c {
			all = append(all, c[i].Key, c[i].Value.Text)
			all = append(all, textsOf([]api.Write{x[i].Write})...)
		}
		all = append(all, textsOf(roll.Writes(lines))...)
		again := pack.Open(b)
		r2, _ := roll.TakeReach(again)
		c2, _ := roll.TakeCells(again)
		x2, _ := roll.TakeLines(again)
		clear(r[:cap(r)])
		clear(c[:cap(c)])
		clear(x[:cap(x)])
		if !slices.Equal(r2, roomyReach()) || !slices.Equal(c2, roomyCells()) || !slices.Equal(x2, lines) {
			t.Fatal("lists that were taken share memory")
		}
	}
	for i, s := range all {
		if slices.ContainsFunc(all[i+1:], func(x string) bool { return shares(s, x) }) {
			t.Fatalf("text %d, %s, isn't new memory", i, short(s))
		}
	}
}

// R7: places, lasts and counts at their limits.
func TestP10_R7_Limits(t *testing.T) {
	every := lineLists()[9]
	r := pack.Open(roll.PutLines(nil, every))
	if x, e := roll.TakeLines(r); len(x) != places || !slices.Equal(x, every) || e != api.OK || r.End() != api.OK {
		t.Errorf("a line at each place: %d, %d", len(x), e)
	}
	if n := len(roll.Writes(every)); n != places {
		t.Errorf("the writes of a line at each place: %d", n)
	}
	r = pack.Open(of(roll.PutLasts(nil, lastsAll()[1]), pack.Number(nil, math.MaxUint64)))
	if x, e := roll.TakeLasts(r); x != lastsAll()[1] || e != api.OK || r.Number(math.MaxUint64) != math.MaxUint64 {
		t.Errorf("the greatest lasts: %v, %d", x, e)
	}
}

// R8: what stands in spare room, or how much of it there is, is nothing to any call.
func TestP10_R8_SpareRoomIsNothing(t *testing.T) {
	want := puts(of(1, 2, 3), roomyReach(), roomyCells(), roomyLines())
	for room := range 50 {
		b := append(make([]byte, 0, 3+room), 1, 2, 3)
		copy(b[3:cap(b)], bytes.Repeat(of(7), room))
		if !alike(puts(b, slices.Clip(roomyReach()), slices.Clip(roomyCells()), slices.Clip(roomyLines())), want) {
			t.Fatalf("with %d bytes of spare room: another answer", room)
		}
	}
}
