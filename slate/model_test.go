package slate_test

import (
	"bytes"
	"fmt"
	"math/rand"
	"slices"
	"testing"

	"spinney/api"
	"spinney/slate"
)

// What stands here does what a slate does by hand, as the chapter's words have it: it keeps what was done in one list, and goes through it for each answer.

// change: of a block: what was written to it, or which bit of what is kept there was turned.
type change struct {
	file, block int
	b           []byte
	bit         int
}

// model: what is kept, and what is pending, each in order.
type model struct {
	kept, pending []change
	left          int // of the budget; below 0: there is none
	dead          bool
}

func newModel() *model { return &model{left: -1} }

// done is what stands at a block behind changes, and whether one of them was of it.
func done(l []change, file, block int) ([]byte, bool) {
	b, has := make([]byte, 64), false
	for _, c := range l {
		if c.file != file || c.block != block {
			continue
		}
		has = true
		if c.bit >= 0 {
			b[c.bit/8] ^= 1 << (c.bit % 8)
			continue
		}
		b = append(slices.Clone(c.b), make([]byte, 64-len(c.b))...)
	}
	return b, has
}

func (m *model) all() []change { return slices.Concat(m.kept, m.pending) }

func (m *model) step() bool {
	if m.left == 0 {
		m.dead = true
		return false
	}
	if m.left > 0 {
		m.left--
	}
	return true
}

func bad(file, block int) bool { return file < 0 || file > 4095 || block < 0 || block > 1023 }

func (m *model) write(file, block int, b []byte) api.Errno {
	if bad(file, block) || len(b) > 64 {
		return api.ErrRange
	}
	if !m.step() {
		return api.ErrDead
	}
	m.pending = append(m.pending, change{file, block, bytes.Clone(b), -1})
	return api.OK
}

// end has a file's changes that are pending be kept, or of the file nothing at all be left.
func (m *model) end(file int, keep bool) api.Errno {
	if bad(file, 0) {
		return api.ErrRange
	}
	if !m.step() {
		return api.ErrDead
	}
	of := func(c change) bool { return c.file == file }
	for _, c := range m.pending {
		if of(c) {
			m.kept = append(m.kept, c)
		}
	}
	m.pending = slices.DeleteFunc(m.pending, of)
	if !keep {
		m.kept = slices.DeleteFunc(m.kept, of)
	}
	return api.OK
}

func (m *model) arm(n int) api.Errno {
	if n < 0 || n > 1099511627776 {
		return api.ErrRange
	}
	m.left, m.dead = n, false
	return api.OK
}

func (m *model) spoil(file, block, bit int) api.Errno {
	if bad(file, block) || bit < 0 || bit > 511 {
		return api.ErrRange
	}
	m.kept = append(m.kept, change{file, block, nil, bit})
	return api.OK
}

func (m *model) crash(keep []bool) *model {
	x := &model{kept: slices.Clone(m.kept), left: -1}
	for i, c := range m.pending {
		if i < len(keep) && keep[i] {
			x.kept = append(x.kept, c)
		}
	}
	return x
}

func (m *model) blocks(file int) int {
	n := 0
	for _, c := range m.all() {
		if c.file == file {
			n = max(n, c.block+1)
		}
	}
	return n
}

func (m *model) files() []int {
	var l []int
	for _, c := range m.all() {
		l = append(l, c.file)
	}
	slices.Sort(l)
	return slices.Compact(l)
}

// The files and blocks that are looked at: those that may be, and others.
var (
	someFiles  = []int{0, 1, 2, 4094, 4095, -1, 4096}
	someBlocks = []int{0, 1, 15, 16, 1023, -1, 1024}
)

// differ tells where a slate isn't as the model has it; nothing, if it is.
func differ(s *slate.Slate, m *model) string {
	if s.Dead() != m.dead || s.Pending() != len(m.pending) || !slices.Equal(s.Files(), m.files()) {
		return fmt.Sprintf("dead %v, pending %d, files %v; want %v, %d, %v", s.Dead(), s.Pending(), s.Files(), m.dead, len(m.pending), m.files())
	}
	all := m.all()
	for _, file := range someFiles {
		if n := s.Blocks(file); n != m.blocks(file) {
			return fmt.Sprintf("%d blocks of file %d, want %d", n, file, m.blocks(file))
		}
		for _, block := range someBlocks {
			b, e := s.Read(file, block)
			if bad(file, block) {
				if e != api.ErrRange || len(b) != 0 {
					return fmt.Sprintf("block %d of file %d: % x, %d", block, file, b, e)
				}
				continue
			}
			if want, _ := done(all, file, block); e != api.OK || !bytes.Equal(b, want) {
				return fmt.Sprintf("block %d of file %d: % x, %d, want % x", block, file, b, e, want)
			}
		}
	}
	return ""
}

// look fails, if a slate isn't as the model has it.
func look(t *testing.T, s *slate.Slate, m *model, behind ...any) {
	t.Helper()
	if d := differ(s, m); d != "" {
		t.Fatalf("behind %s: %s", fmt.Sprint(behind...), d)
	}
}

// pair: a slate, and what it should be.
type pair struct {
	s *slate.Slate
	m *model
}

func newPair() *pair { return &pair{slate.New(), newModel()} }

// Each call, made of both, with the same answer.

func (p *pair) same(t *testing.T, e, want api.Errno, behind ...any) {
	t.Helper()
	if e != want {
		t.Fatalf("%s: %d, want %d", fmt.Sprint(behind...), e, want)
	}
	look(t, p.s, p.m, behind...)
}

func (p *pair) write(t *testing.T, file, block int, b []byte) api.Errno {
	t.Helper()
	e := p.s.Write(file, block, b)
	p.same(t, e, p.m.write(file, block, b), "Write ", file, block, len(b))
	return e
}

func (p *pair) flush(t *testing.T, file int) api.Errno {
	t.Helper()
	e := p.s.Flush(file)
	p.same(t, e, p.m.end(file, true), "Flush ", file)
	return e
}

func (p *pair) remove(t *testing.T, file int) api.Errno {
	t.Helper()
	e := p.s.Remove(file)
	p.same(t, e, p.m.end(file, false), "Remove ", file)
	return e
}

func (p *pair) arm(t *testing.T, n int) api.Errno {
	t.Helper()
	e := p.s.Arm(n)
	p.same(t, e, p.m.arm(n), "Arm ", n)
	return e
}

func (p *pair) spoil(t *testing.T, file, block, bit int) api.Errno {
	t.Helper()
	e := p.s.Spoil(file, block, bit)
	p.same(t, e, p.m.spoil(file, block, bit), "Spoil ", file, block, bit)
	return e
}

// crash: what comes of it; this one stays as it is.
func (p *pair) crash(t *testing.T, keep ...bool) *pair {
	t.Helper()
	x := &pair{p.s.Crash(keep), p.m.crash(keep)}
	look(t, x.s, x.m, "Crash ", keep)
	look(t, p.s, p.m, "Crash of another one ", keep)
	return x
}

// filled: n bytes.
func filled(n int, c byte) []byte { return bytes.Repeat([]byte{c}, n) }

// act makes one call, by chance: the slate with which to go on, and the call's error.
func (p *pair) act(t *testing.T, r *rand.Rand) (*pair, api.Errno) {
	t.Helper()
	// What stands first in a list comes most often.
	pick := func(l []int) int { return l[min(r.Intn(len(l)), r.Intn(len(l)))] }
	file, block := pick(someFiles), pick(someBlocks)
	switch r.Intn(20) {
	case 0, 1, 2:
		return p, p.flush(t, file)
	case 3:
		return p, p.remove(t, file)
	case 4:
		return p, p.arm(t, []int{0, 1, 2, 5, 9, 30, 1 << 40, -1, 1<<40 + 1}[r.Intn(9)])
	case 5, 6:
		return p, p.spoil(t, file, block, []int{0, 1, 7, 8, 300, 511, 512, -1}[r.Intn(8)])
	case 7:
		keep := make([]bool, max(0, p.s.Pending()+r.Intn(5)-2))
		for i := range keep {
			keep[i] = r.Intn(2) == 0
		}
		x := p.crash(t, keep...)
		if r.Intn(3) > 0 {
			return x, api.OK
		}
		return p, api.OK
	}
	b := make([]byte, []int{0, 1, 2, 33, 63, 64, 64, 65}[r.Intn(8)])
	r.Read(b)
	return p, p.write(t, file, block, b)
}
