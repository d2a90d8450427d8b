package letter_test

import (
	"bytes"
	"encoding/binary"
	"hash/crc32"
	"math"
	"math/rand"
	"slices"
	"strings"
	"testing"

	"spinney/api"
	"spinney/cell"
	"spinney/deed"
	"spinney/letter"
	"spinney/roll"
	"spinney/stamp"
)

// What stands here puts, takes and looks at letters by hand, as the chapters' words have it, without packages frame, pack, reach and roll's calls.

// of: bytes out of numbers, texts and bytes.
func of(parts ...any) []byte {
	var b []byte
	for _, p := range parts {
		switch x := p.(type) {
		case int:
			b = append(b, byte(x))
		case string:
			b = append(b, x...)
		case []byte:
			b = append(b, x...)
		}
	}
	return b
}

// framed is a frame, of a length that can't be, too.
func framed(kind int, in []byte) []byte {
	n := len(in)
	b := of(0xe5, kind, n>>16, n>>8, n, in)
	return binary.BigEndian.AppendUint32(b, crc32.Checksum(b, crc32.MakeTable(crc32.Castagnoli)))
}

func handNumber(n uint64) []byte {
	var l []byte
	for ; n > 0; n >>= 8 {
		l = append([]byte{byte(n)}, l...)
	}
	return of(len(l), l)
}

func handText(s string) []byte { return of(handNumber(uint64(len(s))), s) }

func handValue(v api.Value) []byte {
	switch v.Kind {
	case api.Int:
		n := uint64(v.Num) * 2
		if v.Num < 0 {
			n = -uint64(v.Num)*2 - 1
		}
		return of(1, 1, handNumber(n))
	case api.Text:
		return of(1, 2, handText(v.Text))
	}
	return handNumber(uint64(v.Kind))
}

func handWrite(w api.Write) []byte {
	return of(handNumber(uint64(w.Id.Dev)), handNumber(uint64(w.Id.Seq)), handNumber(uint64(w.Op.Kind)), handText(w.Op.Key), handValue(w.Op.A), handValue(w.Op.B))
}

// handList: how many, then each.
func handList[T any](l []T, put func(T) []byte) []byte {
	parts := [][]byte{handNumber(uint64(len(l)))}
	for _, x := range l {
		parts = append(parts, put(x))
	}
	return slices.Concat(parts...)
}

func handCell(c api.Cell) []byte  { return of(handText(c.Key), handValue(c.Value)) }
func handLine(x roll.Line) []byte { return of(handNumber(uint64(x.At)), handWrite(x.Write)) }

// handInside: what stands in a letter's frame, whatever the letter has.
func handInside(l letter.Letter) []byte {
	var b []byte
	for _, n := range []int{l.From, l.To, l.Life, l.Turn, l.Prefix, l.Low, l.First, l.Stamp, l.Taken, l.Start, l.End} {
		b = append(b, handNumber(uint64(n))...)
	}
	flag := 0
	if l.Snap {
		flag = 1
	}
	b = of(b, flag, handList(l.Reach, handText), handList(l.Writes, handWrite), handList(l.Lines, handLine), handList(l.Cells, handCell))
	for _, n := range l.Lasts {
		b = append(b, handNumber(uint64(n))...)
	}
	return b
}

func handBytes(l letter.Letter) []byte { return framed(l.Kind, handInside(l)) }

// source: bytes, and whether something didn't stand there.
type source struct {
	b    []byte
	lost bool
}

func (s *source) bytes(n uint64) []byte {
	if s.lost || n > uint64(len(s.b)) {
		s.lost = true
		return nil
	}
	l := s.b[:n]
	s.b = s.b[n:]
	return l
}

func (s *source) number() uint64 {
	size := s.bytes(1)
	if s.lost || size[0] > 8 {
		s.lost = true
		return 0
	}
	l, n := s.bytes(uint64(size[0])), uint64(0)
	for _, c := range l {
		n = n*256 + uint64(c)
	}
	s.lost = s.lost || !bytes.Equal(handNumber(n), of(int(size[0]), l))
	return n
}

// small is a number that an int is.
func (s *source) small() int {
	n := s.number()
	s.lost = s.lost || n > math.MaxInt
	return int(n)
}

func (s *source) text() string { return string(s.bytes(s.number())) }

func (s *source) value() api.Value {
	v := api.Value{Kind: api.Kind(s.small())}
	switch v.Kind {
	case api.Int:
		n := s.number()
		v.Num = int(n / 2)
		if n%2 == 1 {
			v.Num = -v.Num - 1
		}
	case api.Text:
		v.Text = s.text()
	case api.None:
	default:
		s.lost = true
	}
	return v
}

func (s *source) write() api.Write {
	var w api.Write
	w.Id.Dev, w.Id.Seq, w.Op.Kind = s.small(), s.small(), s.small()
	w.Op.Key, w.Op.A, w.Op.B = s.text(), s.value(), s.value()
	return w
}

func (s *source) cell() api.Cell  { return api.Cell{Key: s.text(), Value: s.value()} }
func (s *source) line() roll.Line { return roll.Line{At: s.small(), Write: s.write()} }

func handTake[T any](s *source, take func() T) []T {
	var l []T
	for n := s.number(); n > 0 && !s.lost; n-- {
		l = append(l, take())
	}
	return l
}

// handDecode is what Decode answers, by the chapters' words.
func handDecode(b []byte) (letter.Letter, api.Errno) {
	if len(b) < 9 || b[0] != 0xe5 {
		return letter.Letter{}, api.ErrForm
	}
	if n := int(b[2])<<16 | int(b[3])<<8 | int(b[4]); n > 100000 || len(b) != n+9 {
		return letter.Letter{}, api.ErrForm
	}
	in := b[5 : len(b)-4]
	if !bytes.Equal(framed(int(b[1]), in), b) {
		return letter.Letter{}, api.ErrSum
	}
	l, s := letter.Letter{Kind: int(b[1])}, source{b: in}
	for _, n := range []*int{&l.From, &l.To, &l.Life, &l.Turn, &l.Prefix, &l.Low, &l.First, &l.Stamp, &l.Taken, &l.Start, &l.End} {
		*n = s.small()
	}
	flag := s.bytes(1)
	l.Snap = len(flag) == 1 && flag[0] == 1
	s.lost = s.lost || flag[0] > 1
	l.Reach, l.Writes, l.Lines, l.Cells = handTake(&s, s.text), handTake(&s, s.write), handTake(&s, s.line), handTake(&s, s.cell)
	for i := range l.Lasts {
		l.Lasts[i] = s.small()
	}
	if s.lost || len(s.b) > 0 || !handGood(l) {
		return letter.Letter{}, api.ErrForm
	}
	return l, api.OK
}

// handGood tells whether a letter is good: what a kind doesn't use is told one by one.
func handGood(l letter.Letter) bool {
	in := func(n, least, most int) bool { return least <= n && n <= most }
	if !in(l.Kind, 1, 4) || !in(l.From, 0, 11) || !in(l.To, 0, 11) || l.From == l.To || !in(l.Life, 1, 1073741824) || !in(l.Turn, 1, 1048576) {
		return false
	}
	if !in(l.Prefix, 0, 4096) || !in(l.Low, 0, l.Prefix) || !in(l.Start, 0, l.End) || !in(l.End, 0, 4096) || !in(l.First, 0, 1099511627776) || !in(l.Stamp, 0, 1099511627776) || !in(l.Taken, 0, 1099511627776) {
		return false
	}
	hello, offer, update := l.Kind == 1, l.Kind == 2, l.Kind == 3
	snap := update && l.Snap
	for _, x := range []struct{ has, may bool }{
		{l.Prefix != 0, hello || offer}, {l.Low != 0, offer}, {l.First != 0, offer}, {l.Stamp != 0, offer || update}, {l.Taken != 0, update}, {l.Start != 0, update}, {l.End != 0, update}, {l.Snap, update},
		{len(l.Reach) > 0, hello}, {len(l.Writes) > 0, offer || update}, {len(l.Lines) > 0, update}, {len(l.Cells) > 0, snap}, {l.Lasts != roll.Lasts{}, snap},
	} {
		if x.has && !x.may {
			return false
		}
	}
	return handGoodLists(l)
}

func handGoodLists(l letter.Letter) bool {
	for i, p := range l.Reach {
		if i >= 6 || p != "" && !deed.Key(p) || i > 0 && (l.Reach[i-1] >= p || strings.HasPrefix(p, l.Reach[i-1])) {
			return false
		}
	}
	for i, w := range l.Writes {
		if i >= 512 || !stamp.Good(w) {
			return false
		}
	}
	for i, x := range l.Lines {
		if x.At < l.Start || x.At >= l.End || !stamp.Good(x.Write) || i > 0 && l.Lines[i-1].At >= x.At {
			return false
		}
	}
	for i, c := range l.Cells {
		if !deed.Key(c.Key) || !cell.Good(c.Value) || c.Value.Kind == api.None || i > 0 && l.Cells[i-1].Key >= c.Key {
			return false
		}
	}
	for i, n := range l.Lasts {
		if n < 0 || n > 40 || i == 0 && n > 0 {
			return false
		}
	}
	return true
}

// look decodes bytes, and holds what comes of it against what is decoded by hand.
func look(t *testing.T, b []byte) api.Errno {
	t.Helper()
	l, e := letter.Decode(b)
	want, wantE := handDecode(b)
	if e != wantE || !same(l, want) {
		t.Fatalf("Decode of %s: %s, %d, want %s, %d", short(b), tell(l), e, tell(want), wantE)
	}
	if e == api.OK && (!letter.Good(l) || !bytes.Equal(handBytes(l), b)) {
		t.Fatalf("Decode of %s: %s, whose bytes are others", short(b), tell(l))
	}
	return e
}

// randomBytes: of a fixed beginning, so that each run has the same ones; all in frames with a right sum, many nearly a letter's.
func randomBytes() [][]byte {
	r := rand.New(rand.NewSource(8))
	var starts [][]byte
	for _, l := range goodLetters() {
		if b := handInside(l); len(b) < 400 {
			starts = append(starts, of(l.Kind, b))
		}
	}
	var all [][]byte
	for range 20000 {
		b := slices.Clone(starts[r.Intn(len(starts))])
		for range r.Intn(3) {
			b[r.Intn(len(b))] ^= 1 << r.Intn(8)
		}
		switch at := 1 + r.Intn(len(b)-1); r.Intn(8) {
		case 0:
			b = b[:at]
		case 1:
			b = of(b, b[at:])
		case 2:
			b = of(b[:at], r.Intn(3), b[at:])
		case 3:
			b = of(b[:at], b[at+1:])
		case 4:
			b[0] = byte(r.Intn(6))
		}
		all = append(all, framed(int(b[0]), b[1:]))
	}
	return all
}

func FuzzDecode(f *testing.F) {
	for _, l := range goodLetters() {
		if b := handInside(l); len(b) < 400 {
			f.Add(byte(l.Kind), b)
		}
	}
	f.Fuzz(func(t *testing.T, kind byte, in []byte) {
		look(t, in)
		look(t, framed(int(kind), in))
	})
}
