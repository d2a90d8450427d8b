package frame_test

import (
	"bytes"
	"math/rand"
	"slices"
	"strconv"
	"testing"

	"spinney/api"
	"spinney/frame"
)

// anyBytes: frames, and more that are none.
func anyBytes() [][]byte {
	l := [][]byte{nil, {}, make([]byte, 0, 9), make([]byte, 9), bytes.Repeat(of(255), 1<<17), bytes.Repeat(of(0xe5), 1<<17), bytes.Repeat(of(0xe5, 0, 0, 0), 99)}
	for _, n := range few() {
		b := framed(n, inside(n))
		spoilt := of(b)
		spoilt[len(b)/2] ^= 4
		l = append(l, b, b[:len(b)-1], b[1:], spoilt, of(b, b), of(b, spoilt), of(b, b[:8]), of(b, 0xe5, 1, 255, 255, 255), of(b, b, spoilt, b))
	}
	for c := range 256 {
		l = append(l, of(c), of(0xe5, c, c, c, c), of(0xe5, c, 0, 0, c, make([]byte, 99)), of(0xe5, c, 0, c, 0, 0, 0, 0, 0), of(0xe5, c, c, 0, 0, 0, 0, 0, 0))
	}
	return l
}

// randomBytes: of a fixed beginning, so that each run has the same ones; many are nearly frames.
func randomBytes() [][]byte {
	r := rand.New(rand.NewSource(6))
	var l [][]byte
	for range 20000 {
		var b []byte
		for range r.Intn(4) {
			in := make([]byte, r.Intn(40))
			r.Read(in)
			b = of(b, framed(r.Intn(256), in))
		}
		switch r.Intn(4) {
		case 0:
			b = b[:r.Intn(len(b)+1)]
		case 1:
			if len(b) > 0 {
				b[r.Intn(len(b))] ^= byte(1 + r.Intn(255))
			}
		case 2:
			b = of(b, r.Intn(256), inside(r.Intn(12)))
		}
		l = append(l, b)
	}
	return l
}

type answers struct {
	sum      uint32
	sealed   []byte
	sealE    api.Errno
	piece    frame.Piece
	openE    api.Errno
	pieces   []frame.Piece
	size     int
	scanE    api.Errno
	sumAgain uint32
}

// ask makes each call of bytes.
func ask(b []byte) (r answers) {
	r.sum = frame.Sum(b)
	r.sealed, r.sealE = frame.Seal(frame.Piece{Kind: byte(len(b)), Inside: b})
	r.piece, r.openE = frame.Open(b)
	r.pieces, r.size, r.scanE = frame.Scan(b)
	r.sumAgain = frame.Sum(b)
	return r
}

// alike tells whether two answers are.
func alike(a, b answers) bool {
	return a.sum == b.sum && a.sumAgain == b.sumAgain && bytes.Equal(a.sealed, b.sealed) && a.sealE == b.sealE && same(a.piece, b.piece) && a.openE == b.openE && sameAll(a.pieces, b.pieces) && a.size == b.size && a.scanE == b.scanE
}

// lists: all lists of bytes that an answer has.
func (r answers) lists() [][]byte {
	l := [][]byte{r.sealed, r.piece.Inside}
	for _, p := range r.pieces {
		l = append(l, p.Inside)
	}
	return l
}

// P6.1: of bytes that are made by chance, too.
func TestP6_1_AnyBytes(t *testing.T) {
	had := map[api.Errno]int{}
	for _, b := range append(randomBytes(), anyBytes()...) {
		look(t, b)
		_, _, e := wantedAll(b)
		had[e]++
	}
	for _, e := range []api.Errno{api.OK, api.ErrForm, api.ErrSum} {
		if had[e] < 1000 {
			t.Errorf("only %d bytes of which Scan's error is %d", had[e], e)
		}
	}
}

// All calls end, and none panics.
func TestP9_AnyArguments(t *testing.T) {
	for _, b := range anyBytes() {
		ask(b)
		for size := range min(len(b), 40) {
			ask(b[size:])
			ask(b[:size])
		}
	}
}

// Great arguments end soon, too.
func TestP9_GreatArguments(t *testing.T) {
	const many = 1 << 24
	if s := frame.Sum(make([]byte, many)); s != checked(make([]byte, many)) {
		t.Errorf("the sum of many bytes: %08x", s)
	}
	b := bytes.Repeat(framed(1, nil), many/9)
	l, size, e := frame.Scan(b)
	if e != api.OK || size != len(b) || len(l) != many/9 {
		t.Errorf("many frames: %d pieces, %d, %d", len(l), size, e)
	}
	if p, e := frame.Open(b); e != api.ErrForm || !zero(p) {
		t.Errorf("Open of many frames: %d, %d", p.Kind, e)
	}
	b[len(b)-1] ^= 1
	if l, size, e := frame.Scan(b); e != api.ErrSum || size != len(b)-9 || len(l) != many/9-1 {
		t.Errorf("many frames, the last one of another sum: %d pieces, %d, %d", len(l), size, e)
	}
}

// R1.
func TestP10_R1_IntHas64Bits(t *testing.T) {
	if strconv.IntSize != 64 {
		t.Errorf("an int has %d bits", strconv.IntSize)
	}
}

// R2: what is wrong in two ways is answered by the error that is named first.
func TestP10_R2_TheFirstError(t *testing.T) {
	b := framed(1, inside(9))
	b[17] ^= 1
	for _, x := range [][]byte{b[:17], of(b, 0), of(0xe4, b[1:]), of(b[:2], 2, b[3:]), of(b[:4], 8, b[5:]), of(b[:4], 10, b[5:])} {
		if p, e := frame.Open(x); e != api.ErrForm || !zero(p) {
			t.Errorf("Open of %s, of another sum: %s, %d", short(x), tell(p), e)
		}
	}
	for _, x := range [][]byte{b[:17], of(0xe4, b[1:]), of(b[:2], 2, b[3:]), of(b[:4], 10, b[5:])} {
		if l, size, e := frame.Scan(x); e != api.ErrForm || size != 0 || len(l) != 0 {
			t.Errorf("Scan of %s, of another sum: %d pieces, %d, %d", short(x), len(l), size, e)
		}
	}
}

// R3: beside an error stands the zero value; only Scan's pieces and bytes stand beside one.
func TestP10_R3_BesideAnError(t *testing.T) {
	opened, scanned := 0, 0
	for _, b := range append(anyBytes(), make([]byte, greatest+1)) {
		r := ask(b)
		if r.sealE != api.OK && len(r.sealed) != 0 || r.openE != api.OK && !zero(r.piece) {
			t.Errorf("of %s: %s beside %d, %s beside %d", short(b), short(r.sealed), r.sealE, tell(r.piece), r.openE)
		}
		wantL, wantSize, wantE := wantedAll(b)
		if r.scanE != wantE || r.size != wantSize || !sameAll(r.pieces, wantL) {
			t.Errorf("Scan of %s: %d pieces, %d, %d", short(b), len(r.pieces), r.size, r.scanE)
		}
		if r.openE != api.OK {
			opened++
		}
		if r.scanE != api.OK && len(r.pieces) > 0 {
			scanned++
		}
	}
	if opened < 100 || scanned < 20 {
		t.Errorf("only %d errors of Open, and %d of Scan beside pieces", opened, scanned)
	}
}

// R4, R8: nothing is kept: whatever was asked between, an answer is what it was.
func TestP10_R4_R8_TheSameAgain(t *testing.T) {
	all := anyBytes()
	var first []answers
	for _, b := range all {
		first = append(first, ask(b))
	}
	for i := len(all) - 1; i >= 0; i-- {
		if !alike(ask(all[i]), first[i]) {
			t.Errorf("%s: another answer", short(all[i]))
		}
	}
}

// R5: a list that is nil means the same as one that is empty.
func TestP10_R5_EmptyAndNil(t *testing.T) {
	some := framed(1, nil)
	for _, b := range [][]byte{{}, make([]byte, 0, 99), some[:0], some[9:]} {
		if !alike(ask(b), ask(nil)) {
			t.Errorf("no bytes %#v: something else than of nil", b)
		}
		x, e := frame.Seal(frame.Piece{Kind: 1, Inside: b})
		if e != api.OK || !bytes.Equal(x, some) {
			t.Errorf("Seal of no bytes %#v: %s, %d", b, short(x), e)
		}
	}
}

// R7: any kind, and any byte at any place inside.
func TestP10_R7_AnyKindsAndBytes(t *testing.T) {
	for c := range 256 {
		for at := range 9 {
			in := make([]byte, 9)
			in[at] = byte(c)
			b, e := frame.Seal(frame.Piece{Kind: byte(c), Inside: in})
			p, openE := frame.Open(b)
			if e != api.OK || openE != api.OK || !same(p, frame.Piece{Kind: byte(c), Inside: in}) {
				t.Errorf("%d at %d: %s, %d, %d", c, at, tell(p), e, openE)
			}
		}
	}
}

// R8: what stands in spare room, or how much of it there is, is nothing to any call.
func TestP10_R8_SpareRoomIsNothing(t *testing.T) {
	for _, b := range [][]byte{framed(1, inside(3)), of(framed(1, inside(3)), 0xe5, 2), inside(5)} {
		want := ask(slices.Clip(b))
		for room := range 50 {
			x := append(make([]byte, 0, len(b)+room), b...)
			copy(x[len(x):cap(x)], framed(2, inside(40)))
			if !alike(ask(x), want) {
				t.Fatalf("%s with %d bytes of spare room: another answer", short(b), room)
			}
		}
	}
}

// spacious: bytes with others in the spare room behind them.
func spacious(b []byte, room int) []byte {
	x := append(make([]byte, 0, len(b)+room), b...)
	copy(x[len(x):cap(x)], bytes.Repeat(of(0xe5, 1, 0, 0), room))
	return x
}

// samples: what is handed in where memory is looked at.
func samples() [][]byte {
	one, other := framed(1, of("abc")), framed(2, inside(300))
	return [][]byte{nil, inside(1), inside(64), one, other, of(one, other, one), of(one, other, 0xe5), of(one, other[:200]), of(one, one[:11], 0), framed(3, inside(65536)), framed(3, nil)}
}

// P6.3, and R6: what is handed in stays, with its spare room, however great that is.
func TestP6_3_WhatIsHandedInStays(t *testing.T) {
	for _, b := range samples() {
		for _, room := range []int{0, 1, 4, 5, 9, 100, 5000, 2 * api.MaxFrame} {
			x := spacious(b, room)
			was := bytes.Clone(x[:cap(x)])
			r := ask(x)
			for _, l := range r.lists() {
				clear(l[:cap(l)])
			}
			if !bytes.Equal(x[:cap(x)], was) || len(x) != len(b) {
				t.Fatalf("%s with %d bytes of spare room: it has changed", short(b), room)
			}
		}
	}
}

// P6.3, and R6: answers are new memory: writing to one list, and to its spare room, changes nothing else.
func TestP6_3_AnswersAreNewMemory(t *testing.T) {
	for _, b := range samples() {
		x, want := spacious(b, 40), ask(b)
		r, again := ask(x), ask(x)
		lists, still := r.lists(), want.lists()
		for i, l := range lists {
			l = l[:cap(l)]
			for j := range l {
				l[j] ^= 255
			}
			for j := i + 1; j < len(lists); j++ {
				if !bytes.Equal(lists[j], still[j]) {
					t.Fatalf("of %s: lists %d and %d of an answer share memory", short(b), i, j)
				}
			}
			if !alike(again, want) || !alike(ask(x), want) {
				t.Fatalf("of %s: list %d of an answer shares memory", short(b), i)
			}
		}
		clear(r.pieces[:cap(r.pieces)])
		if !alike(again, want) || !alike(ask(x), want) {
			t.Fatalf("of %s: the list of pieces shares memory", short(b))
		}
	}
}

// What grows behind an answer changes no other one.
func TestP6_3_GrowingAnAnswer(t *testing.T) {
	b := of(framed(1, of("ab")), framed(2, of("cd")), framed(3, of("ef")))
	l, _, _ := frame.Scan(b)
	for i := range l {
		l[i].Inside = append(l[i].Inside, "zzzzzzzzzzzzzz"...)
	}
	for i, s := range []string{"ab", "cd", "ef"} {
		if string(l[i].Inside) != s+"zzzzzzzzzzzzzz" {
			t.Errorf("piece %d: %q", i, l[i].Inside)
		}
	}
	if x, _, e := frame.Scan(b); e != api.OK || len(x) != 3 || string(x[1].Inside) != "cd" {
		t.Errorf("what was handed in: %s, %d", short(b), e)
	}
}

// What is answered doesn't follow what was handed in.
func TestP6_3_NothingHandedInIsKept(t *testing.T) {
	for _, b := range samples() {
		x, want := spacious(b, 9), ask(b)
		r := ask(x)
		clear(x[:cap(x)])
		if !alike(r, want) {
			t.Errorf("of %s: the answers have changed with it", short(b))
		}
	}
}
