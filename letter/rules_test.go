package letter_test

import (
	"bytes"
	"slices"
	"strconv"
	"strings"
	"testing"
	"unsafe"

	"spinney/api"
	"spinney/letter"
	"spinney/roll"
)

// anyLetters: whatever a letter may be made of.
func anyLetters() []letter.Letter {
	all := []letter.Letter{{}}
	for _, n := range []int{least, -1, 0, 1, 3, 4096, 1 << 32, greatest} {
		for kind := -1; kind <= 5; kind++ {
			l := letter.Letter{Kind: kind, From: n, To: n, Life: n, Turn: n, Prefix: n, Low: n, First: n, Stamp: n, Taken: n, Start: n, End: n, Snap: n > 0}
			all = append(all, l)
			l.To, l.Life, l.Turn = 1, 1, 1
			l.Reach = api.Reach{sized(1 << 12), "", "\xff", "a", "a", "a", "a", "a"}
			l.Writes = slices.Repeat(badWrites(), 50)
			l.Lines = []roll.Line{{At: n}, {At: n, Write: badWrites()[2]}}
			l.Cells = []api.Cell{{Key: sized(1 << 12), Value: api.Value{Kind: api.Kind(n), Num: n, Text: sized(1 << 12)}}, {}}
			l.Lasts = roll.Lasts{n, n, n}
			all = append(all, l)
		}
	}
	for _, x := range badLetters() {
		all = append(all, x.l)
	}
	return append(all, goodLetters()...)
}

// anyBytes: whatever bytes may be.
func anyBytes() [][]byte {
	l := [][]byte{nil, {}, make([]byte, 0, 9), make([]byte, 1<<17), bytes.Repeat(of(255), 1<<17), bytes.Repeat(of(0xe5), 1<<17)}
	for kind := range 6 {
		for _, in := range [][]byte{nil, make([]byte, 99), make([]byte, api.MaxFrame), bytes.Repeat(of(1), 500), bytes.Repeat(of(1), api.MaxFrame), bytes.Repeat(of(8), 500), bytes.Repeat(of(255), api.MaxFrame), of(8, bytes.Repeat(of(255), 200)), of(make([]byte, 11), 1, 8, bytes.Repeat(of(255), 500)), make([]byte, api.MaxFrame+1)} {
			l = append(l, framed(kind, in))
		}
	}
	for c := range 256 {
		l = append(l, of(c), of(0xe5, c, 0, 0, c, make([]byte, 99)), framed(c, nil), framed(1, of(c)), framed(2, bytes.Repeat(of(c), 300)), framed(3, bytes.Repeat(of(1, c), 300)))
	}
	return l
}

// answers: what the calls answer of a letter, and of its bytes.
type answers struct {
	good   bool
	b      []byte
	e      api.Errno
	l      letter.Letter
	lE     api.Errno
	behind letter.Letter
}

// ask makes each call of a letter.
func ask(l letter.Letter) (r answers) {
	r.good = letter.Good(l)
	r.b, r.e = letter.Encode(l)
	r.l, r.lE = letter.Decode(r.b)
	r.behind = l
	return r
}

// alike tells whether two answers are.
func alike(a, b answers) bool {
	return a.good == b.good && bytes.Equal(a.b, b.b) && a.e == b.e && same(a.l, b.l) && a.lE == b.lE && same(a.behind, b.behind)
}

// All calls end, and none panics.
func TestP9_AnyArguments(t *testing.T) {
	for _, l := range anyLetters() {
		if r := ask(l); r.good != handGood(l) || r.good && r.e != api.OK && r.e != api.ErrFull || !r.good && r.e != api.ErrForm {
			t.Errorf("%s: %v, %d", tell(l), r.good, r.e)
		}
	}
	for _, b := range anyBytes() {
		look(t, b)
		for size := range min(len(b), 40) {
			look(t, b[size:])
			look(t, b[:size])
		}
	}
}

// Great arguments end soon, too.
func TestP9_GreatArguments(t *testing.T) {
	l := snap()
	l.Cells = nil
	for i := range 1 << 18 {
		l.Cells = append(l.Cells, api.Cell{Key: strconv.Itoa(1<<18 + i), Value: num(i)})
	}
	if b, e := letter.Encode(l); !letter.Good(l) || e != api.ErrFull || len(b) != 0 {
		t.Errorf("many cells: %d bytes, %d", len(b), e)
	}
	l.Writes = someWrites(1 << 18)
	if b, e := letter.Encode(l); letter.Good(l) || e != api.ErrForm || len(b) != 0 {
		t.Errorf("many writes: %d bytes, %d", len(b), e)
	}
	if x, e := letter.Decode(make([]byte, 1<<26)); e != api.ErrForm || !zero(x) {
		t.Errorf("many bytes: %d", e)
	}
}

// R1.
func TestP10_R1_IntHas64Bits(t *testing.T) {
	if strconv.IntSize != 64 {
		t.Errorf("an int has %d bits", strconv.IntSize)
	}
	for _, n := range []int{1<<32 + 1, 1<<32 + 3, -1<<32 + 3} {
		for _, l := range kinds() {
			for i, x := range []letter.Letter{with(l, func(l *letter.Letter) { l.Kind += n - 3 }), with(l, func(l *letter.Letter) { l.From = n }), with(l, func(l *letter.Letter) { l.Life = n }), with(l, func(l *letter.Letter) { l.Turn = n })} {
				if letter.Good(x) {
					t.Errorf("kind %d, change %d by %d: good", l.Kind, i, n)
				}
			}
		}
	}
	l := with(offer(), func(l *letter.Letter) { l.Stamp, l.First = 1<<39+5, 1<<36 })
	if x := ask(l); x.e != api.OK || !same(x.l, l) {
		t.Errorf("numbers of more than 32 bits: %s, %d", tell(x.l), x.e)
	}
}

// R2: what is wrong in two ways is answered by the error that is named first.
func TestP10_R2_TheFirstError(t *testing.T) {
	l := with(full(t, api.MaxFrame+1), func(l *letter.Letter) { l.Low = 1 })
	if b, e := letter.Encode(l); e != api.ErrForm || len(b) != 0 {
		t.Errorf("Encode of too much that isn't good: %d", e)
	}
	l = with(hello(), func(l *letter.Letter) { l.Low = 1 })
	b := handBytes(l)
	b[7] ^= 1
	if x, e := letter.Decode(b); e != api.ErrSum || !zero(x) {
		t.Errorf("Decode of another sum, of what isn't good: %d", e)
	}
	if x, e := letter.Decode(b[:len(b)-1]); e != api.ErrForm || !zero(x) {
		t.Errorf("Decode of another sum, of what ends early: %d", e)
	}
}

// R3: beside an error stands the zero value, however much of the letter is good.
func TestP10_R3_BesideAnError(t *testing.T) {
	failed := 0
	for _, l := range few() {
		in := handInside(l)
		for at := range in {
			for _, c := range []int{0, 3, 9, 41, 255} {
				x, e := letter.Decode(framed(l.Kind, of(in[:at], c, in[at+1:])))
				if e == api.OK {
					continue
				}
				failed++
				if !zero(x) || len(x.Reach)+len(x.Writes)+len(x.Lines)+len(x.Cells) > 0 {
					t.Fatalf("beside %d stands %s", e, tell(x))
				}
			}
		}
	}
	if failed < 10000 {
		t.Errorf("only %d errors", failed)
	}
	for _, x := range badLetters() {
		if b, e := letter.Encode(x.l); len(b) != 0 || e == api.OK {
			t.Errorf("%s: beside %d stand %d bytes", x.why, e, len(b))
		}
	}
}

// R4, R8: nothing is kept: whatever was asked between, an answer is what it was.
func TestP10_R4_R8_TheSameAgain(t *testing.T) {
	all := anyLetters()
	var first []answers
	for _, l := range all {
		first = append(first, ask(l))
	}
	for i := len(all) - 1; i >= 0; i-- {
		if !alike(ask(all[i]), first[i]) {
			t.Errorf("%s: another answer", tell(all[i]))
		}
	}
}

// R5: a list that is nil means the same as one that is empty.
func TestP10_R5_EmptyAndNil(t *testing.T) {
	for _, l := range append(goodLetters(), letter.Letter{}) {
		want := ask(l)
		if len(l.Reach) == 0 {
			l.Reach = api.Reach{"a"}[:0]
		}
		if len(l.Writes) == 0 {
			l.Writes = someWrites(3)[:0]
		}
		if len(l.Lines) == 0 {
			l.Lines = lines(1, 2)[:0]
		}
		if len(l.Cells) == 0 {
			l.Cells = make([]api.Cell, 0, 9)
		}
		if !alike(ask(l), want) {
			t.Errorf("%s: another answer where lists are empty", tell(l))
		}
	}
	for _, b := range [][]byte{nil, {}, make([]byte, 0, 99)} {
		if x, e := letter.Decode(b); e != api.ErrForm || !zero(x) {
			t.Errorf("Decode of no bytes %#v: %d", b, e)
		}
	}
}

// roomy is a letter of each kind, its lists with others in their spare room, each text in memory of its own.
func roomy() []letter.Letter {
	all := kinds()
	for i := range all {
		l := &all[i]
		if l.Reach != nil {
			r := api.Reach{strings.Clone("aa"), strings.Clone("bb"), strings.Clone("cc"), strings.Clone("dd")}
			l.Reach = r[:2]
		}
		if l.Writes != nil {
			l.Writes = roomyWrites()[:3]
		}
		if l.Lines != nil {
			x := lines(20, 22, 24, 24, 25)
			for j, w := range roomyWrites()[:5] {
				x[j].Write = w
			}
			l.Lines = x[:3]
		}
		if l.Cells != nil {
			var c []api.Cell
			for j := range 6 {
				c = append(c, api.Cell{Key: string(of("key", 'a'+j)), Value: text(strings.Clone("some"))})
			}
			l.Cells = c[:3]
		}
	}
	return all
}

func roomyWrites() []api.Write {
	var l []api.Write
	for i := range 6 {
		l = append(l, api.Write{Id: api.Id{Dev: 1, Seq: 1 + i}, Op: api.Op{Kind: api.Cas, Key: strings.Clone("key"), A: text(strings.Clone("old")), B: text(strings.Clone("new"))}})
	}
	return l
}

// whole is a letter with its lists' spare room.
func whole(l letter.Letter) letter.Letter {
	l.Reach, l.Writes, l.Lines, l.Cells = l.Reach[:cap(l.Reach)], l.Writes[:cap(l.Writes)], l.Lines[:cap(l.Lines)], l.Cells[:cap(l.Cells)]
	return l
}

// wipe makes all that a letter's lists have, with their spare room, zero.
func wipe(l letter.Letter) {
	l = whole(l)
	clear(l.Reach)
	clear(l.Writes)
	clear(l.Lines)
	clear(l.Cells)
}

// copied is a letter with lists of its own, without what they have in spare room.
func copied(l letter.Letter) letter.Letter {
	l.Reach, l.Writes, l.Lines, l.Cells = slices.Clone(l.Reach), slices.Clone(l.Writes), slices.Clone(l.Lines), slices.Clone(l.Cells)
	return l
}

// P8.3, and R6: what is handed in stays, with its spare room.
func TestP8_3_WhatIsHandedInStays(t *testing.T) {
	for _, l := range roomy() {
		was := copied(whole(l))
		for range 2 {
			r := ask(l)
			if !r.good || r.e != api.OK || !same(r.l, l) {
				t.Fatalf("%s: %v, %d", tell(l), r.good, r.e)
			}
			clear(r.b[:cap(r.b)])
			wipe(r.l)
			if !same(whole(l), was) {
				t.Fatalf("kind %d: what was handed in has changed", l.Kind)
			}
		}
	}
	for _, l := range goodLetters() {
		for _, room := range []int{0, 1, 4, 9, 5000} {
			b := handBytes(l)
			x := append(make([]byte, 0, len(b)+room), b...)
			copy(x[len(x):cap(x)], bytes.Repeat(of(0xe5, 1), room))
			was := bytes.Clone(x[:cap(x)])
			y, e := letter.Decode(x)
			if e == api.OK {
				wipe(y)
			}
			if !bytes.Equal(x[:cap(x)], was) {
				t.Fatalf("kind %d: bytes that were handed in have changed", l.Kind)
			}
		}
	}
}

// P8.3, and R6: answers are new memory: writing to one, and to its spare room, changes nothing else.
func TestP8_3_AnswersAreNewMemory(t *testing.T) {
	for _, l := range roomy() {
		want, first, again := ask(copied(l)), ask(l), ask(l)
		b := bytes.Clone(first.b)
		fromBytes, _ := letter.Decode(b)
		clear(first.b[:cap(first.b)])
		if !same(first.l, want.l) || !alike(again, want) || !alike(ask(l), want) {
			t.Fatalf("kind %d: the bytes share memory", l.Kind)
		}
		for i, c := range []func(x letter.Letter){
			func(x letter.Letter) { clear(x.Reach[:cap(x.Reach)]) }, func(x letter.Letter) { clear(x.Writes[:cap(x.Writes)]) }, func(x letter.Letter) { clear(x.Lines[:cap(x.Lines)]) }, func(x letter.Letter) { clear(x.Cells[:cap(x.Cells)]) },
		} {
			x, _ := letter.Decode(b)
			rest := copied(x)
			c(x)
			if !same(fromBytes, want.l) || !alike(again, want) || !bytes.Equal(b, want.b) {
				t.Fatalf("kind %d: list %d of an answer shares memory", l.Kind, i)
			}
			c(rest)
			if !same(x, rest) {
				t.Fatalf("kind %d: list %d of an answer shares memory with another one of it", l.Kind, i)
			}
		}
	}
}

// What grows behind an answer changes no other one.
func TestP8_3_GrowingAnAnswer(t *testing.T) {
	b, _ := letter.Encode(snap())
	x, y := append(b, 1), append(b, 2)
	b2, _ := letter.Encode(snap())
	if !bytes.Equal(x[:len(b)], b2) || !bytes.Equal(y[:len(b)], b2) {
		t.Error("the bytes have changed")
	}
	l, _ := letter.Decode(b2)
	l.Writes = append(l.Writes, someWrites(9)...)
	l.Lines = append(l.Lines, lines(30, 31, 32)...)
	l.Cells = append(l.Cells, someCells()...)
	if m, e := letter.Decode(b2); e != api.OK || !same(m, snap()) || !slices.Equal(l.Lines[:3], snap().Lines) || !slices.Equal(l.Cells[:3], snap().Cells) {
		t.Errorf("what was decoded has changed: %s, %d", tell(m), e)
	}
}

// P8.3: what is answered follows nothing that was handed in.
func TestP8_3_NothingHandedInIsKept(t *testing.T) {
	for i, l := range roomy() {
		want := ask(roomy()[i])
		b, e := letter.Encode(l)
		wipe(l)
		if e != api.OK || !bytes.Equal(b, want.b) {
			t.Errorf("kind %d: the bytes have changed with the letter", l.Kind)
		}
		x, e := letter.Decode(b)
		clear(b[:cap(b)])
		if e != api.OK || !same(x, want.l) {
			t.Errorf("kind %d: the letter has changed with the bytes", l.Kind)
		}
	}
}

// textsOf: all texts of a letter.
func textsOf(l letter.Letter) []string {
	all := slices.Clone([]string(l.Reach))
	writes := slices.Clone(l.Writes)
	for _, x := range l.Lines {
		writes = append(writes, x.Write)
	}
	for _, w := range writes {
		all = append(all, w.Op.Key, w.Op.A.Text, w.Op.B.Text)
	}
	for _, c := range l.Cells {
		all = append(all, c.Key, c.Value.Text)
	}
	return all
}

// shares tells whether two texts have bytes of one memory.
func shares(a, b string) bool {
	if a == "" || b == "" {
		return false
	}
	x, y := uintptr(unsafe.Pointer(unsafe.StringData(a))), uintptr(unsafe.Pointer(unsafe.StringData(b)))
	return x < y+uintptr(len(b)) && y < x+uintptr(len(a))
}

// P8.3: the texts of a letter that is decoded are new memory, each of its own.
func TestP8_3_Texts(t *testing.T) {
	for _, l := range roomy() {
		b, _ := letter.Encode(l)
		all := append(textsOf(l), unsafe.String(unsafe.SliceData(b), cap(b)))
		for range 2 {
			x, e := letter.Decode(b)
			if e != api.OK {
				t.Fatalf("kind %d: %d", l.Kind, e)
			}
			all = append(all, textsOf(x)...)
		}
		for i, s := range all {
			if slices.ContainsFunc(all[i+1:], func(x string) bool { return shares(s, x) }) {
				t.Fatalf("kind %d: text %d, %q, isn't new memory", l.Kind, i, s)
			}
		}
	}
}

// R7: letters at their limits, and any others.
func TestP10_R7_Limits(t *testing.T) {
	for _, l := range []letter.Letter{
		{Kind: 1, From: 11, To: 0, Life: lives, Turn: turns, Prefix: places, Reach: api.Reach{"a", "b", "c", "d", "e", "f"}},
		{Kind: 2, From: 11, To: 0, Life: lives, Turn: turns, Prefix: places, Low: places, First: stamps, Stamp: stamps, Writes: someWrites(512)},
		{Kind: 3, From: 0, To: 11, Life: lives, Turn: turns, Stamp: stamps, Taken: stamps, Start: places, End: places, Writes: someWrites(512), Snap: true, Cells: someCells(), Lasts: roll.Lasts{0, 40, 40, 40, 40, 40, 40, 40, 40, 40, 40, 40}},
		{Kind: 4, From: 0, To: 11, Life: lives, Turn: turns},
	} {
		if r := ask(l); !r.good || r.e != api.OK || r.lE != api.OK || !same(r.l, l) || !bytes.Equal(r.b, handBytes(l)) {
			t.Errorf("%s: %v, %d, %d", tell(l), r.good, r.e, r.lE)
		}
	}
}

// R8: what stands in spare room, or how much of it there is, is nothing to any call.
func TestP10_R8_SpareRoomIsNothing(t *testing.T) {
	for _, l := range roomy() {
		want := ask(l)
		clipped := l
		clipped.Reach, clipped.Writes, clipped.Lines, clipped.Cells = slices.Clip(l.Reach), slices.Clip(l.Writes), slices.Clip(l.Lines), slices.Clip(l.Cells)
		if !alike(ask(clipped), want) {
			t.Errorf("kind %d: another answer without spare room", l.Kind)
		}
		for room := range 20 {
			b := append(make([]byte, 0, len(want.b)+room), want.b...)
			copy(b[len(b):cap(b)], bytes.Repeat(of(7), room))
			if x, e := letter.Decode(b); e != api.OK || !same(x, want.l) {
				t.Errorf("kind %d, with %d bytes of spare room: another answer", l.Kind, room)
			}
		}
	}
}
