package roll_test

import (
	"bytes"
	"math/rand"
	"slices"
	"testing"

	"spinney/api"
	"spinney/cell"
	"spinney/deed"
	"spinney/pack"
	"spinney/roll"
	"spinney/stamp"
)

// What stands here puts and takes by hand, as the chapters' words have it, without package pack.

func handNumber(n uint64) []byte {
	var l []byte
	for ; n > 0; n >>= 8 {
		l = append([]byte{byte(n)}, l...)
	}
	return of(len(l), l)
}

func handText(s string) []byte { return of(handNumber(uint64(len(s))), s) }

func handValue(v api.Value) []byte {
	switch v.Kind {
	case api.Int:
		n := uint64(v.Num) * 2
		if v.Num < 0 {
			n = -uint64(v.Num)*2 - 1
		}
		return of(1, 1, handNumber(n))
	case api.Text:
		return of(1, 2, handText(v.Text))
	}
	return handNumber(uint64(v.Kind))
}

func handWrite(w api.Write) []byte {
	return of(handNumber(uint64(w.Id.Dev)), handNumber(uint64(w.Id.Seq)), handNumber(uint64(w.Op.Kind)), handText(w.Op.Key), handValue(w.Op.A), handValue(w.Op.B))
}

func handReach(r api.Reach) []byte {
	b := handNumber(uint64(len(r)))
	for _, p := range r {
		b = append(b, handText(p)...)
	}
	return b
}

func handCells(l []api.Cell) []byte {
	b := handNumber(uint64(len(l)))
	for _, c := range l {
		b = append(append(b, handText(c.Key)...), handValue(c.Value)...)
	}
	return b
}

func handLasts(l roll.Lasts) []byte {
	var b []byte
	for _, n := range l {
		b = append(b, handNumber(uint64(n))...)
	}
	return b
}

func handLines(l []roll.Line) []byte {
	b := handNumber(uint64(len(l)))
	for _, x := range l {
		b = append(append(b, handNumber(uint64(x.At))...), handWrite(x.Write)...)
	}
	return b
}

// source: bytes, and whether something didn't stand there.
type source struct {
	b    []byte
	lost bool
}

func (s *source) bytes(n uint64) []byte {
	if s.lost || n > uint64(len(s.b)) {
		s.lost = true
		return nil
	}
	l := s.b[:n]
	s.b = s.b[n:]
	return l
}

func (s *source) number() uint64 {
	size := s.bytes(1)
	if s.lost || size[0] > 8 {
		s.lost = true
		return 0
	}
	l, n := s.bytes(uint64(size[0])), uint64(0)
	for _, c := range l {
		n = n*256 + uint64(c)
	}
	s.lost = s.lost || !bytes.Equal(handNumber(n), of(size, l))
	return n
}

// small is a number that an int is.
func (s *source) small() int {
	n := s.number()
	s.lost = s.lost || n > greatest
	return int(n)
}

func (s *source) text() string { return string(s.bytes(s.number())) }

func (s *source) value() api.Value {
	v := api.Value{Kind: api.Kind(s.small())}
	switch v.Kind {
	case api.Int:
		n := s.number()
		v.Num = int(n / 2)
		if n%2 == 1 {
			v.Num = -v.Num - 1
		}
	case api.Text:
		v.Text = s.text()
	}
	s.lost = s.lost || !cell.Good(v)
	return v
}

func (s *source) write() api.Write {
	var w api.Write
	w.Id.Dev, w.Id.Seq, w.Op.Kind = s.small(), s.small(), s.small()
	w.Op.Key, w.Op.A, w.Op.B = s.text(), s.value(), s.value()
	s.lost = s.lost || !stamp.Good(w)
	return w
}

// wanted is what each kind of thing that stands at the front of bytes is, as it is told, and what is left behind it.
func wanted(b []byte) (want [4]taken, rest [4][]byte) {
	all := [4]source{{b: b}, {b: b}, {b: b}, {b: b}}
	told := [4][]byte{wantedReach(&all[0]), wantedCells(&all[1]), wantedLasts(&all[2]), wantedLines(&all[3])}
	for i, s := range all {
		want[i] = taken{string(told[i]), api.OK}
		rest[i] = s.b
		if s.lost {
			want[i] = zeros()[i]
		}
	}
	return want, rest
}

func wantedReach(s *source) []byte {
	var r api.Reach
	for n := s.number(); n > 0 && !s.lost; n-- {
		p := s.text()
		s.lost = s.lost || p != "" && !deed.Key(p)
		for _, q := range r {
			s.lost = s.lost || q >= p || len(q) <= len(p) && p[:len(q)] == q
		}
		r = append(r, p)
	}
	s.lost = s.lost || len(r) > 6
	return handReach(r)
}

func wantedCells(s *source) []byte {
	var l []api.Cell
	for n := s.number(); n > 0 && !s.lost; n-- {
		c := api.Cell{Key: s.text(), Value: s.value()}
		s.lost = s.lost || !deed.Key(c.Key) || c.Value == api.Value{} || len(l) > 0 && l[len(l)-1].Key >= c.Key
		l = append(l, c)
	}
	return handCells(l)
}

func wantedLasts(s *source) []byte {
	var l roll.Lasts
	for i := range l {
		n := s.number()
		s.lost = s.lost || n > 40 || i == 0 && n > 0
		l[i] = int(n)
	}
	return handLasts(l)
}

func wantedLines(s *source) []byte {
	var l []roll.Line
	for n := s.number(); n > 0 && !s.lost; n-- {
		x := roll.Line{At: s.small(), Write: s.write()}
		s.lost = s.lost || x.At > 4095 || len(l) > 0 && l[len(l)-1].At >= x.At
		l = append(l, x)
	}
	return handLines(l)
}

// look takes a thing of each kind from bytes, and holds it against what is taken by hand.
func look(t *testing.T, b []byte) {
	t.Helper()
	want, rest := wanted(b)
	for i, k := range kinds() {
		r := pack.Open(b)
		x := k.take(r)
		if x != want[i] {
			t.Fatalf("%s of %s: %s, %d, want %s, %d", k.name, short(b), short(x.told), x.e, short(want[i].told), want[i].e)
		}
		if x.e == api.OK && !slices.Equal(left(r), left(pack.Open(rest[i]))) {
			t.Fatalf("%s of %s: not just its bytes are taken", k.name, short(b))
		}
	}
}

// randomBytes: of a fixed beginning, so that each run has the same ones; many are nearly things'.
func randomBytes() [][]byte {
	r := rand.New(rand.NewSource(7))
	var starts [][]byte
	for _, k := range kinds() {
		for _, put := range k.puts {
			if b := put(nil); len(b) < 200 {
				starts = append(starts, b)
			}
		}
	}
	var l [][]byte
	for range 8000 {
		b := slices.Clone(starts[r.Intn(len(starts))])
		for range r.Intn(3) {
			b[r.Intn(len(b))] ^= 1 << r.Intn(8)
		}
		switch r.Intn(4) {
		case 0:
			b = b[:r.Intn(len(b)+1)]
		case 1:
			b = of(b, starts[r.Intn(len(starts))])
		case 2:
			at := r.Intn(len(b) + 1)
			b = of(b[:at], r.Intn(3), b[at:])
		}
		l = append(l, b)
	}
	return l
}

func FuzzTake(f *testing.F) {
	for _, k := range kinds() {
		for _, put := range k.puts {
			if b := put(nil); len(b) < 400 {
				f.Add(b)
			}
		}
	}
	f.Fuzz(func(t *testing.T, b []byte) { look(t, b) })
}
