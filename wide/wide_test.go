package wide_test

import (
	"bytes"
	"math"
	"testing"

	"spinney/wide"
)

func TestPut(t *testing.T) {
	for _, c := range []struct {
		b     []byte
		n     uint64
		width int
		want  []byte
	}{
		{nil, 0, 0, nil}, {nil, 5, 0, nil}, {nil, 0, 2, []byte{0, 0}}, {[]byte{9}, 300, 2, []byte{9, 1, 44}}, {nil, 300, 4, []byte{0, 0, 1, 44}}, {nil, 300, 1, []byte{44}},
		{[]byte{1, 2}, 0x0102030405060708, 8, []byte{1, 2, 1, 2, 3, 4, 5, 6, 7, 8}}, {nil, math.MaxUint64, 8, bytes.Repeat([]byte{255}, 8)}, {nil, 1 << 63, 8, []byte{128, 0, 0, 0, 0, 0, 0, 0}},
	} {
		if b := wide.Put(c.b, c.n, c.width); !bytes.Equal(b, c.want) {
			t.Errorf("Put(% x, %d, %d): % x, want % x", c.b, c.n, c.width, b, c.want)
		}
	}
}

func TestTake(t *testing.T) {
	for _, c := range []struct {
		b    []byte
		want uint64
	}{
		{nil, 0}, {[]byte{}, 0}, {[]byte{0}, 0}, {[]byte{7}, 7}, {[]byte{1, 44}, 300}, {[]byte{0, 0, 1, 44}, 300}, {[]byte{1, 2, 3, 4, 5, 6, 7, 8}, 0x0102030405060708},
		{bytes.Repeat([]byte{255}, 8), math.MaxUint64}, {[]byte{9, 128, 0, 0, 0, 0, 0, 0, 1}, 1<<63 + 1},
	} {
		was := bytes.Clone(c.b)
		if n := wide.Take(c.b); n != c.want || !bytes.Equal(c.b, was) {
			t.Errorf("Take(% x): %d, want %d", was, n, c.want)
		}
	}
}

func TestThereAndBack(t *testing.T) {
	for width := range 9 {
		for _, n := range []uint64{0, 1, 127, 128, 255, 256, 65535, 65536, 1<<24 + 3, 1<<32 - 1, 1 << 40, math.MaxInt64, math.MaxUint64} {
			want := n
			if width < 8 {
				want = n & (1<<(8*width) - 1)
			}
			if x := wide.Take(wide.Put(nil, n, width)); x != want {
				t.Errorf("%d in %d bytes: %d, want %d", n, width, x, want)
			}
		}
	}
}
