package frame_test

import (
	"bytes"
	"encoding/binary"
	"fmt"
	"hash/crc32"
	"slices"
	"testing"

	"spinney/api"
	"spinney/frame"
)

const greatest = api.MaxFrame

// of: bytes out of numbers, texts and bytes.
func of(parts ...any) []byte {
	var b []byte
	for _, p := range parts {
		switch x := p.(type) {
		case int:
			b = append(b, byte(x))
		case byte:
			b = append(b, x)
		case string:
			b = append(b, x...)
		case []byte:
			b = append(b, x...)
		}
	}
	return b
}

// inside: n bytes, of which no two neighbours are the same.
func inside(n int) []byte {
	b := make([]byte, n)
	for i := range b {
		b[i] = byte(i*7 + i>>8)
	}
	return b
}

// sizes of what may be inside.
func sizes() []int {
	return []int{0, 1, 2, 3, 4, 5, 8, 9, 60, 127, 128, 254, 255, 256, 257, 1023, 65535, 65536, 65537, greatest - 1, greatest}
}

// few: small ones alone.
func few() []int { return []int{0, 1, 2, 9, 255, 256} }

// checked is the sum by the library.
func checked(b []byte) uint32 { return crc32.Checksum(b, crc32.MakeTable(crc32.Castagnoli)) }

// summed is bytes with their sum behind them.
func summed(b []byte) []byte { return binary.BigEndian.AppendUint32(slices.Clip(b), checked(b)) }

// framed is the frame, made without the package; of a length that can't be, too.
func framed(kind int, in []byte) []byte {
	n := len(in)
	return summed(of(0xe5, kind, n>>16, n>>8, n, in))
}

func same(a, b frame.Piece) bool { return a.Kind == b.Kind && bytes.Equal(a.Inside, b.Inside) }

func sameAll(a, b []frame.Piece) bool { return slices.EqualFunc(a, b, same) }

// short tells bytes, of many only the first ones and how many there are.
func short(b []byte) string {
	if len(b) <= 20 {
		return fmt.Sprintf("[% x]", b)
	}
	return fmt.Sprintf("[% x ..: %d]", b[:20], len(b))
}

// tell tells a piece likewise.
func tell(p frame.Piece) string { return fmt.Sprintf("%d %s", p.Kind, short(p.Inside)) }

// zero tells whether a piece is what stands beside an error.
func zero(p frame.Piece) bool { return p.Kind == 0 && len(p.Inside) == 0 }

// wanted is what Open answers, by the chapter's words.
func wanted(b []byte) (frame.Piece, api.Errno) {
	if !long(b) || len(b) != told(b)+9 {
		return frame.Piece{}, api.ErrForm
	}
	if !bytes.Equal(summed(b[:len(b)-4]), b) {
		return frame.Piece{}, api.ErrSum
	}
	return frame.Piece{Kind: b[1], Inside: b[5 : len(b)-4]}, api.OK
}

// told is how many bytes are said to be inside.
func told(b []byte) int { return int(b[2])*65536 + int(b[3])*256 + int(b[4]) }

// long tells whether bytes begin with what is as long as a frame.
func long(b []byte) bool {
	return len(b) >= 9 && b[0] == 0xe5 && told(b) <= greatest && len(b) >= told(b)+9
}

// wantedAll is what Scan answers, by the chapter's words.
func wantedAll(b []byte) (l []frame.Piece, size int, e api.Errno) {
	for size < len(b) {
		left := b[size:]
		if !long(left) {
			return l, size, api.ErrForm
		}
		p, e := wanted(left[:told(left)+9])
		if e != api.OK {
			return l, size, e
		}
		l, size = append(l, p), size+told(left)+9
	}
	return l, size, api.OK
}

// look has Open and Scan look at bytes, and tells whether they answer as they should.
func look(t *testing.T, b []byte) {
	t.Helper()
	want, wantE := wanted(b)
	if p, e := frame.Open(b); e != wantE || !same(p, want) {
		t.Errorf("Open(%s): %s, %d, want %s, %d", short(b), tell(p), e, tell(want), wantE)
	}
	wantL, wantSize, wantE := wantedAll(b)
	if l, size, e := frame.Scan(b); e != wantE || size != wantSize || !sameAll(l, wantL) {
		t.Errorf("Scan(%s): %d pieces, %d, %d, want %d, %d, %d", short(b), len(l), size, e, len(wantL), wantSize, wantE)
	}
}

// refused looks at bytes that are no frame, and at these behind frames: the errors of Open and of Scan are told by hand.
func refused(t *testing.T, b []byte, open, scan api.Errno) {
	t.Helper()
	if p, e := frame.Open(b); e != open || !zero(p) {
		t.Errorf("Open(%s): %s, %d, want %d", short(b), tell(p), e, open)
	}
	first, second := framed(3, of("ab")), framed(4, nil)
	ahead := []frame.Piece{{Kind: 3, Inside: of("ab")}, {Kind: 4}}
	for n, front := range [][]byte{nil, first, of(first, second)} {
		l, size, e := frame.Scan(of(front, b))
		if e != scan || size != len(front) || !sameAll(l, ahead[:n]) {
			t.Errorf("Scan of %d frames and %s: %d pieces, %d, %d, want %d, %d, %d", n, short(b), len(l), size, e, n, len(front), scan)
		}
	}
}

// bitByBit is the sum, word by word as the chapter has it.
func bitByBit(b []byte) uint32 {
	c := uint32(0xffffffff)
	for _, x := range b {
		c ^= uint32(x)
		for range 8 {
			if c&1 == 1 {
				c = c>>1 ^ 0x82f63b78
			} else {
				c >>= 1
			}
		}
	}
	return c ^ 0xffffffff
}

func TestP6_1_Sum(t *testing.T) {
	rising, falling := make([]byte, 32), make([]byte, 32)
	for i := range 32 {
		rising[i], falling[31-i] = byte(i), byte(i)
	}
	for _, c := range []struct {
		b   []byte
		sum uint32
	}{
		{nil, 0}, {of(), 0}, {of("123456789"), 0xe3069283}, {of("a"), 0xc1d04330}, {of(0), 0x527d5351}, {of(255), 0xff000000},
		{make([]byte, 32), 0x8a9136aa}, {bytes.Repeat(of(255), 32), 0x62a8ab43}, {rising, 0x46dd794e}, {falling, 0x113fdb5c},
	} {
		if s := frame.Sum(c.b); s != c.sum {
			t.Errorf("Sum(%s): %08x, want %08x", short(c.b), s, c.sum)
		}
	}
}

func TestP6_1_SumOfManyBytes(t *testing.T) {
	var all [][]byte
	for c := range 256 {
		all = append(all, of(c), of(0, c), of(c, 0), of(c, 255-c, c), bytes.Repeat(of(c), 300))
	}
	for n := range 300 {
		all = append(all, inside(n), make([]byte, n))
	}
	for _, n := range sizes() {
		all = append(all, inside(n))
	}
	for _, b := range append(all, inside(1<<20)) {
		if s := frame.Sum(b); s != checked(b) || s != bitByBit(b) {
			t.Errorf("Sum(%s): %08x, want %08x, %08x", short(b), s, checked(b), bitByBit(b))
		}
	}
}

// The bytes of frames, told by hand.
func TestP6_1_Seal(t *testing.T) {
	for _, c := range []struct {
		p frame.Piece
		b []byte
	}{
		{frame.Piece{Kind: 7}, of(0xe5, 7, 0, 0, 0, 0xc6, 0x7d, 0x15, 0x46)},
		{frame.Piece{}, of(0xe5, 0, 0, 0, 0, 0xdf, 0x7d, 0xad, 0x8c)},
		{frame.Piece{Kind: 1, Inside: of("a")}, of(0xe5, 1, 0, 0, 1, "a", 0x25, 0x09, 0x3d, 0xee)},
		{frame.Piece{Kind: 255, Inside: of(0, 255)}, of(0xe5, 255, 0, 0, 2, 0, 255, 0x97, 0xf6, 0x26, 0x27)},
	} {
		if b, e := frame.Seal(c.p); e != api.OK || !bytes.Equal(b, c.b) {
			t.Errorf("Seal of %s: %s, %d, want %s", tell(c.p), short(b), e, short(c.b))
		}
		if p, e := frame.Open(c.b); e != api.OK || !same(p, c.p) {
			t.Errorf("Open(%s): %s, %d", short(c.b), tell(p), e)
		}
	}
}

func TestP6_1_SealOfEachSize(t *testing.T) {
	for _, n := range sizes() {
		for _, kind := range []int{0, 1, 0xe5, 255} {
			in := inside(n)
			b, e := frame.Seal(frame.Piece{Kind: byte(kind), Inside: in})
			if e != api.OK || len(b) != n+9 || !bytes.Equal(b, framed(kind, in)) {
				t.Errorf("Seal of %d and %d bytes: %s, %d", kind, n, short(b), e)
			}
		}
	}
	for n, front := range map[int][]byte{255: of(0, 0, 255), 256: of(0, 1, 0), 65535: of(0, 255, 255), 65536: of(1, 0, 0), greatest: of(1, 134, 160)} {
		if b, e := frame.Seal(frame.Piece{Kind: 2, Inside: inside(n)}); e != api.OK || !bytes.HasPrefix(b, of(0xe5, 2, front)) {
			t.Errorf("the front of a frame of %d bytes: %s, %d", n, short(b), e)
		}
	}
}

// Too many inside: of some of these a length of three bytes would be one that may be.
func TestP6_1_TooManyInside(t *testing.T) {
	for _, n := range []int{greatest + 1, greatest + 2, 2 * greatest, 1 << 17, 1<<24 - 1, 1 << 24, 1<<24 + 5, 1<<24 + greatest} {
		if b, e := frame.Seal(frame.Piece{Kind: 7, Inside: make([]byte, n)}); e != api.ErrFull || len(b) != 0 {
			t.Errorf("Seal of %d bytes: %s, %d, want ErrFull", n, short(b), e)
		}
	}
	for n := greatest + 1; n < 1<<24; n += 999983 {
		refused(t, framed(7, make([]byte, n)), api.ErrForm, api.ErrForm)
	}
	for _, n := range []int{greatest + 1, greatest + 2, 1<<24 - 1} {
		refused(t, framed(7, make([]byte, n)), api.ErrForm, api.ErrForm)
		refused(t, of(0xe5, 7, n>>16, n>>8, n), api.ErrForm, api.ErrForm)
		refused(t, of(0xe5, 7, n>>16, n>>8, n, inside(greatest+4)), api.ErrForm, api.ErrForm)
	}
}

// No bytes are no frame; of no frames at all they are.
func TestP6_1_NoBytes(t *testing.T) {
	if p, e := frame.Open(nil); e != api.ErrForm || !zero(p) {
		t.Errorf("Open of no bytes: %s, %d", tell(p), e)
	}
	if l, size, e := frame.Scan(nil); e != api.OK || size != 0 || len(l) != 0 {
		t.Errorf("Scan of no bytes: %v, %d, %d", l, size, e)
	}
}

// Bytes that end within the front, the inside, the sum.
func TestP6_1_BytesThatEndTooEarly(t *testing.T) {
	for _, n := range few() {
		b := framed(9, inside(n))
		for size := 1; size < len(b); size++ {
			refused(t, b[:size:size], api.ErrForm, api.ErrForm)
		}
	}
	for _, n := range []int{65535, 65536, greatest} {
		b := framed(9, inside(n))
		for _, size := range []int{1, 2, 3, 4, 5, 6, 8, 9, 10, n / 2, n - 1, n, n + 4, n + 5, n + 6, n + 7, n + 8} {
			refused(t, b[:size:size], api.ErrForm, api.ErrForm)
		}
	}
}

// What stands in spare room isn't there: no missing end is taken from it.
func TestP6_1_TheEndInSpareRoom(t *testing.T) {
	b := of(framed(9, inside(20)), framed(8, nil))
	for size := 1; size < len(b); size++ {
		look(t, b[:size])
		if p, e := frame.Open(b[:size]); size != 29 && (e != api.ErrForm || !zero(p)) {
			t.Errorf("%d bytes, the others in the spare room: %s, %d", size, tell(p), e)
		}
		if l, at, e := frame.Scan(b[:size]); size != 29 && (e != api.ErrForm || at != size/29*29 || len(l) != size/29) {
			t.Errorf("%d bytes, the others in the spare room: %v, %d, %d", size, l, at, e)
		}
	}
	if p, e := frame.Open(b[:29]); e != api.OK || !same(p, frame.Piece{Kind: 9, Inside: inside(20)}) {
		t.Errorf("a frame with another in the spare room: %s, %d", tell(p), e)
	}
	if l, size, e := frame.Scan(b[:29]); e != api.OK || size != 29 || len(l) != 1 {
		t.Errorf("a frame with another in the spare room: %v, %d, %d", l, size, e)
	}
}

// The first byte isn't E5, with a sum that is right, and with one that isn't.
func TestP6_1_AnotherFirstByte(t *testing.T) {
	for c := range 256 {
		if c == 0xe5 {
			continue
		}
		for _, n := range []int{0, 1, 300} {
			b := framed(5, inside(n))
			b[0] = byte(c)
			refused(t, b, api.ErrForm, api.ErrForm)
			refused(t, summed(b[:len(b)-4]), api.ErrForm, api.ErrForm)
		}
	}
}

// Bytes behind a frame: it isn't opened, and one of another sum isn't either, by the first of the two errors; where frames are looked for, both are seen.
func TestP6_1_BytesBehind(t *testing.T) {
	for _, n := range append(few(), greatest) {
		b, p := framed(6, inside(n)), frame.Piece{Kind: 6, Inside: inside(n)}
		for _, behind := range [][]byte{of(0), of(0xe5), of(1, 2, 3), make([]byte, 9), of(0xe5, 1, 0, 0), framed(6, inside(n))} {
			if p, e := frame.Open(of(b, behind)); e != api.ErrForm || !zero(p) {
				t.Errorf("Open of a frame of %d, and %s: %s, %d", n, short(behind), tell(p), e)
			}
			look(t, of(b, behind))
			if behind[0] == 0xe5 && len(behind) > 4 {
				continue
			}
			if l, size, e := frame.Scan(of(b, behind)); e != api.ErrForm || size != n+9 || !sameAll(l, []frame.Piece{p}) {
				t.Errorf("Scan of a frame of %d, and %s: %d pieces, %d, %d", n, short(behind), len(l), size, e)
			}
			spoilt := of(b, behind)
			spoilt[n+8] ^= 1
			refused(t, spoilt, api.ErrForm, api.ErrSum)
		}
	}
}

func TestP6_1_AnotherSum(t *testing.T) {
	for _, n := range append(few(), 65536, greatest) {
		b := framed(2, inside(n))
		ahead := b[:n+5]
		sum := checked(ahead)
		for _, other := range []uint32{0, sum + 1, sum - 1, ^sum, checked(inside(n)), checked(ahead[1:]), checked(framed(3, inside(n))[:n+5])} {
			refused(t, binary.BigEndian.AppendUint32(slices.Clip(ahead), other), api.ErrSum, api.ErrSum)
		}
		refused(t, binary.LittleEndian.AppendUint32(slices.Clip(ahead), sum), api.ErrSum, api.ErrSum)
		refused(t, of(b[0], 3, b[2:]), api.ErrSum, api.ErrSum) // another kind
		if n > 1 {
			refused(t, of(b[:5], b[6], b[5], b[7:]), api.ErrSum, api.ErrSum) // two bytes inside, the one for the other
		}
	}
}

// frames: one behind the other, and what they are of.
func frames() ([]byte, []frame.Piece) {
	var b []byte
	var l []frame.Piece
	for i, n := range []int{0, 0, 1, 9, 2, 300, 0, 65536, 5, greatest, 1} {
		p := frame.Piece{Kind: byte(250 + i), Inside: inside(n)}
		b, l = of(b, framed(250+i, p.Inside)), append(l, p)
	}
	return b, l
}

func TestP6_1_Scan(t *testing.T) {
	b, all := frames()
	at := 0
	for i := range len(all) + 1 {
		if l, size, e := frame.Scan(b[:at]); e != api.OK || size != at || !sameAll(l, all[:i]) {
			t.Errorf("Scan of %d frames: %d pieces, %d, %d, want %d", i, len(l), size, e, at)
		}
		if i < len(all) {
			at += len(all[i].Inside) + 9
		}
	}
	const many = 30000
	l, size, e := frame.Scan(bytes.Repeat(framed(1, of("k")), many))
	if e != api.OK || size != 10*many || len(l) != many || !same(l[0], l[many-1]) || !same(l[0], frame.Piece{Kind: 1, Inside: of("k")}) {
		t.Errorf("Scan of many frames: %d pieces, %d, %d", len(l), size, e)
	}
}

// The first that is no frame ends it, whatever stands behind that: frames too.
func TestP6_1_ScanUpToTheFirstThatIsNone(t *testing.T) {
	good := framed(1, of("abc"))
	spoilt := of(good)
	spoilt[6] ^= 32
	shorter, longer := of(good), of(good)
	shorter[4], longer[4] = 2, 4
	for _, c := range []struct {
		none       []byte
		open, scan api.Errno
	}{
		{of(0), api.ErrForm, api.ErrForm}, {of(0xe4, good[1:]), api.ErrForm, api.ErrForm}, {good[1:], api.ErrForm, api.ErrForm}, {of(0xe5, good), api.ErrForm, api.ErrForm},
		{of(0xe5, 1, 255, 255, 255), api.ErrForm, api.ErrForm}, {of(0xe5, 1, 1, 134, 161), api.ErrForm, api.ErrForm}, {of(0xe5, 1, 1, 134, 160), api.ErrForm, api.ErrForm},
		{spoilt, api.ErrSum, api.ErrSum}, {shorter, api.ErrForm, api.ErrSum}, {longer, api.ErrForm, api.ErrForm}, {make([]byte, 64), api.ErrForm, api.ErrForm},
	} {
		refused(t, c.none, c.open, c.scan)
		for _, behind := range [][]byte{of(0), good, of(good, good)} {
			look(t, of(c.none, behind))
			look(t, of(good, c.none, behind))
			look(t, of(good, good, c.none, behind))
		}
	}
	// A length that is one too great takes the next frame's first byte: then there is another sum.
	if l, size, e := frame.Scan(of(good, longer, good)); e != api.ErrSum || size != 12 || len(l) != 1 {
		t.Errorf("Scan with one too long, and a frame behind: %d pieces, %d, %d", len(l), size, e)
	}
}

// Each beginning of frames, and each single bit of them turned.
func TestP6_1_ScanOfSpoiltFrames(t *testing.T) {
	b := of(framed(1, nil), framed(0xe5, framed(7, nil)), framed(2, of("a")), framed(3, inside(30)))
	for size := range len(b) + 1 {
		look(t, b[:size:size])
	}
	for bit := range 8 * len(b) {
		turned := of(b)
		turned[bit/8] ^= 1 << (bit % 8)
		look(t, turned)
		l, size, e := frame.Scan(turned)
		n := 0
		for _, end := range []int{9, 27, 37, 76} {
			if bit/8 >= end {
				n++
			}
		}
		if e == api.OK || len(l) != n || size != []int{0, 9, 27, 37}[n] {
			t.Errorf("Scan with bit %d turned: %d pieces, %d, %d, want %d", bit, len(l), size, e, n)
		}
	}
}

// What is sealed comes back: each kind, each size.
func TestP6_2_WhatIsSealedComesBack(t *testing.T) {
	back := func(p frame.Piece) {
		b, e := frame.Seal(p)
		if e != api.OK {
			t.Fatalf("Seal of %s: %d", tell(p), e)
		}
		if x, e := frame.Open(b); e != api.OK || !same(x, p) {
			t.Errorf("Open of what was sealed of %s: %s, %d", tell(p), tell(x), e)
		}
		if l, size, e := frame.Scan(of(b, b)); e != api.OK || size != 2*len(b) || !sameAll(l, []frame.Piece{p, p}) {
			t.Errorf("Scan of what was sealed of %s: %d pieces, %d, %d", tell(p), len(l), size, e)
		}
	}
	for kind := range 256 {
		for _, n := range few() {
			back(frame.Piece{Kind: byte(kind), Inside: inside(n)})
		}
		for c := range 256 {
			back(frame.Piece{Kind: byte(kind), Inside: of(c)})
		}
	}
	for _, n := range sizes() {
		for _, in := range [][]byte{inside(n), make([]byte, n), bytes.Repeat(of(255), n), bytes.Repeat(of(0xe5), n)} {
			back(frame.Piece{Kind: 7, Inside: in})
		}
	}
	b, l := frames()
	var sealed []byte
	for _, p := range l {
		x, _ := frame.Seal(p)
		sealed = of(sealed, x)
	}
	if !bytes.Equal(sealed, b) {
		t.Error("frames one behind the other aren't those that were sealed")
	}
}

// turn looks at a frame of which a bit is turned, and of which nothing else is wrong.
func turn(t *testing.T, b []byte, bit int) {
	t.Helper()
	b[bit/8] ^= 1 << (bit % 8)
	want := api.ErrSum
	if at := bit / 8; at == 0 || at >= 2 && at <= 4 {
		want = api.ErrForm // it isn't E5, or isn't as long as is told
	}
	if p, e := frame.Open(b); e != want || !zero(p) {
		t.Errorf("a frame of %d with bit %d turned: %s, %d, want %d", len(b), bit, tell(p), e, want)
	}
	if l, size, e := frame.Scan(b); e == api.OK || size != 0 || len(l) != 0 {
		t.Errorf("Scan of a frame of %d with bit %d turned: %d pieces, %d, %d", len(b), bit, len(l), size, e)
	}
	b[bit/8] ^= 1 << (bit % 8)
}

// Of small frames each bit; of great ones those at both ends, and some between.
func TestP6_2_OneBitTurned(t *testing.T) {
	for _, n := range few() {
		for _, kind := range []int{0, 7, 255} {
			b := framed(kind, inside(n))
			for bit := range 8 * len(b) {
				turn(t, b, bit)
			}
		}
	}
	for _, n := range []int{65535, 65536, greatest} {
		b := framed(7, inside(n))
		for bit := range 48 {
			turn(t, b, bit)
			turn(t, b, 8*len(b)-1-bit)
		}
		for bit := 48; bit < 8*len(b); bit += 7919 {
			turn(t, b, bit)
		}
	}
}

func TestP6_2_BytesMoreOrFewer(t *testing.T) {
	for _, n := range append(few(), 65536, greatest) {
		b := framed(7, inside(n))
		var others [][]byte
		for _, k := range []int{1, 2, 4, 9, 256} {
			others = append(others, of(b, make([]byte, k)), of(make([]byte, k), b), of(b, b[len(b)-1:]), of(b[:5], make([]byte, k), b[5:]), of(b[:n+5], make([]byte, k), b[n+5:]))
			if k <= len(b) {
				others = append(others, b[:len(b)-k:len(b)-k], b[k:])
			}
			if k <= n {
				others = append(others, of(b[:5], b[5+k:]), of(b[:n+5-k], b[n+5:]))
			}
		}
		for i, x := range others {
			if p, e := frame.Open(x); e != api.ErrForm || !zero(p) {
				t.Errorf("of a frame of %d with bytes more or fewer, %d: %s, %d", n, i, tell(p), e)
			}
		}
	}
}

// No bytes as few as that are a frame.
func TestP6_1_AllOfTwoBytes(t *testing.T) {
	for c := range 1 << 16 {
		b := of(c>>8, c)
		if _, e := frame.Open(b); e != api.ErrForm {
			t.Fatalf("Open(%v): %d", b, e)
		}
		if l, size, e := frame.Scan(b); e != api.ErrForm || size != 0 || len(l) != 0 {
			t.Fatalf("Scan(%v): %v, %d, %d", b, l, size, e)
		}
	}
}

// More bytes: what FuzzRead finds is looked at as it is, and sealed.
func FuzzRead(f *testing.F) {
	for _, b := range anyBytes() {
		if len(b) <= 1000 {
			f.Add(b, byte(len(b)))
		}
	}
	f.Fuzz(func(t *testing.T, b []byte, kind byte) {
		was := of(b)
		look(t, b)
		b = b[:min(len(b), greatest)]
		x, e := frame.Seal(frame.Piece{Kind: kind, Inside: b})
		if e != api.OK || !bytes.Equal(x, framed(int(kind), b)) {
			t.Errorf("Seal of %s: %s, %d", short(b), short(x), e)
		}
		look(t, x)
		look(t, of(x, b))
		look(t, of(x, x, b))
		if !bytes.Equal(b, was[:len(b)]) {
			t.Errorf("%s was read, and is %s", short(was), short(b))
		}
	})
}
