package vault_test

import (
	"reflect"
	"strconv"
	"strings"
	"testing"

	"spinney/api"
	"spinney/deed"
	"spinney/frame"
	"spinney/pith"
	"spinney/roll"
	"spinney/slate"
	"spinney/stamp"
	"spinney/vault"
	"spinney/wide"
)

func num(n int) api.Value { return api.Value{Kind: api.Int, Num: n} }

// write is that of a text: an id, a blank, an operation's line.
func write(s string) api.Write {
	a, b, _ := strings.Cut(s, " ")
	id, e := stamp.Read(a)
	o, f := deed.Read(b)
	if e != api.OK || f != api.OK {
		panic("no write: " + s)
	}
	return api.Write{Id: id, Op: o}
}

// tidy is a state with lists that are nil, where they are empty, so that states may be compared whole.
func tidy(s pith.State) pith.State {
	if len(s.Reach) == 0 {
		s.Reach = nil
	}
	if len(s.Stem.Cells) == 0 {
		s.Stem.Cells = nil
	}
	if len(s.Stem.Lines) == 0 {
		s.Stem.Lines = nil
	}
	if len(s.Tail) == 0 {
		s.Tail = nil
	}
	if len(s.Queue) == 0 {
		s.Queue = nil
	}
	return s
}

func same(a, b pith.State) bool { return reflect.DeepEqual(tidy(a), tidy(b)) }

// state is device 3's first one.
func state() pith.State {
	s, e := pith.New(3, 1, 40, api.Reach{"a", "b"})
	if e != api.OK {
		panic("no state")
	}
	return s
}

// bulky is a state whose piece has at least so many bytes inside: each of its cells has 53.
func bulky(size int) pith.State {
	s := state()
	for i := range size/53 + 1 {
		n := strconv.Itoa(i)
		s.Stem.Cells = append(s.Stem.Cells, api.Cell{Key: "a" + strings.Repeat("0", 6-len(n)) + n, Value: api.Value{Kind: api.Text, Text: strings.Repeat("t", 40)}})
	}
	return s
}

// entries are of each kind, that may be done one after the other upon the first state.
func entries() []pith.Entry {
	return []pith.Entry{
		{Kind: pith.Born, N: 1},
		{Kind: pith.Took, Write: write("3/1 put a 1")},
		{Kind: pith.Took, Write: write("3/2 put b.1 2")},
		{Kind: pith.Grew, End: 2, Lines: []roll.Line{{At: 1, Write: write("3/1 put a 1")}}, Tail: []api.Write{write("4/1 put a 3")}},
		{Kind: pith.Moved, N: 2},
		{Kind: pith.Cut, N: 2},
		{Kind: pith.Leapt, N: 9, Cells: []api.Cell{{Key: "a", Value: num(9)}}, Lasts: roll.Lasts{3: 2}},
		{Kind: pith.Took, Write: write("3/3 put a \"some%20text\"")},
	}
}

func made(t *testing.T, s *slate.Slate, x pith.State) *vault.Vault {
	t.Helper()
	v, e := vault.Make(s, x)
	if e != api.OK {
		t.Fatalf("Make: %d", e)
	}
	return v
}

func opened(t *testing.T, s *slate.Slate) *vault.Vault {
	t.Helper()
	v, e := vault.Open(s)
	if e != api.OK {
		t.Fatalf("Open: %d", e)
	}
	return v
}

// is looks at what a vault tells as it stands, and as it is sure; and that this is what is opened behind a crash.
func is(t *testing.T, s *slate.Slate, v *vault.Vault, stands, sure pith.State) {
	t.Helper()
	if got := v.State(); !same(got, stands) {
		t.Fatalf("State: %v, want %v", got, stands)
	}
	if got := v.Sure(); !same(got, sure) {
		t.Fatalf("Sure: %v, want %v", got, sure)
	}
	x := opened(t, s.Crash(nil))
	if !same(x.State(), sure) || !same(x.Sure(), sure) {
		t.Fatalf("behind a crash: %v, %v, want %v", x.State(), x.Sure(), sure)
	}
}

// done is a state behind entries.
func done(x pith.State, l ...pith.Entry) pith.State {
	for _, e := range l {
		y, errno := pith.Do(x, e)
		if errno != api.OK {
			panic("it can't be done")
		}
		x = y
	}
	return x
}

// sealed are the bytes of a state's piece and of entries'.
func sealed(pieces ...frame.Piece) []byte {
	var b []byte
	for _, p := range pieces {
		f, e := frame.Seal(p)
		if e != api.OK {
			panic("it can't be sealed")
		}
		b = append(b, f...)
	}
	return b
}

// lay writes bytes on files from one on, and flushes them.
func lay(s *slate.Slate, first int, b []byte) {
	for at := 0; at < len(b); at += 64 {
		s.Write(first+at/1024, at%1024/64, b[at:min(at+64, len(b))])
		s.Flush(first + at/1024)
	}
}

// peg is the bytes that tell of an extent.
func pegged(first int, b []byte) []byte {
	return wide.Put(wide.Put(wide.Put(nil, uint64(first), 2), uint64(len(b)), 4), uint64(frame.Sum(b)), 4)
}
