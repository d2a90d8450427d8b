package arbor_test

import (
	"math/rand"
	"slices"
	"testing"

	"spinney/api"
	"spinney/arbor"
	"spinney/bough"
	"spinney/trellis"
)

// replayed is an arbor behind acts.
func replayed(t *testing.T, x trellis.Tree, acts []arbor.Act) *arbor.Arbor {
	t.Helper()
	a := made(t, x, 4)
	for _, y := range acts {
		a.Do(y)
	}
	return a
}

// kept tells whether a node has of a state all that it must not forget, but its life.
func kept(a, b bough.Report) bool {
	return a.Parent == b.Parent && a.Base == b.Base && a.End == b.End && slices.Equal(a.Queue, b.Queue) && slices.Equal(a.Tail, b.Tail) && slices.Equal(a.Known, b.Known) && slices.Equal(a.Cells, b.Cells)
}

// P3: the power goes at each step of an act, whatever is kept: behind it a node has what it had, or what the step was to make sure.
func TestP3_WhereverThePowerGoes(t *testing.T) {
	r := rand.New(rand.NewSource(3))
	ended := 0
	for i := range 60 {
		x := forest()[i%6]
		var acts []arbor.Act
		for range 30 + r.Intn(120) {
			acts = append(acts, some(r, x, foul))
		}
		was := replayed(t, x, acts)
		y := some(r, x, climate{arbor.Write: 1, arbor.Deliver: 4, arbor.Cut: 1, arbor.Move: 1})
		n := y.A
		if l := was.Air(); y.Kind == arbor.Deliver {
			if len(l) == 0 {
				continue
			}
			n = l[y.A%len(l)].To
		}
		if !was.Up(n) {
			continue
		}
		will := replayed(t, x, append(slices.Clone(acts), y))
		for budget := 0; ; budget++ {
			a := replayed(t, x, append(slices.Clone(acts), arbor.Act{Kind: arbor.Arm, A: n, B: budget}, y))
			if a.Up(n) {
				break
			}
			ended++
			a.Do(arbor.Act{Kind: arbor.Crash, A: n, B: r.Intn(1 << 30)})
			if e := a.Do(arbor.Act{Kind: arbor.Start, A: n}); e != api.OK {
				t.Fatalf("%+v, a budget of %d: %d", y, budget, e)
			}
			if got := a.Report(n); !kept(got, was.Report(n)) && !kept(got, will.Report(n)) {
				t.Fatalf("%+v, a budget of %d: node %d has %v, neither %v nor %v", y, budget, n, got, was.Report(n), will.Report(n))
			}
		}
	}
	if ended < 50 {
		t.Errorf("the power went %d times", ended)
	}
}

// P3: a spoilt bit leaves a node as it was, or down with ErrRot.
func TestP3_ASpoiltBit(t *testing.T) {
	r := rand.New(rand.NewSource(33))
	x := forest()[2]
	var acts []arbor.Act
	for range 300 {
		acts = append(acts, some(r, x, fair))
	}
	a := replayed(t, x, append(acts, arbor.Act{Kind: arbor.Calm, A: 3}))
	spoilt, left := 0, 0
	for range 1500 {
		n := r.Intn(len(x))
		y := arbor.Act{Kind: arbor.Spoil, A: n, B: r.Intn(16 * 512), C: r.Intn(12)}
		if r.Intn(3) == 0 {
			y.B, y.C = r.Intn(1024), 0
		}
		was, sure := a.Report(n), first(a.Sure(n))
		if e := a.Do(y); e != api.OK {
			t.Fatalf("%+v: %d", y, e)
		}
		if got := a.Report(n); !equal(got, was) {
			t.Fatalf("%+v: a node that is up has changed", y)
		}
		a.Do(arbor.Act{Kind: arbor.Crash, A: n})
		s, e := a.Sure(n)
		if f := a.Do(arbor.Act{Kind: arbor.Start, A: n}); e != f || e != api.OK && e != api.ErrRot || a.Up(n) != (e == api.OK) {
			t.Fatalf("%+v: %d, %d", y, e, f)
		}
		if e == api.ErrRot {
			spoilt++
			a.Do(y) // the bit again: as it was
			if e := a.Do(arbor.Act{Kind: arbor.Start, A: n}); e != api.OK {
				t.Fatalf("%+v again: %d", y, e)
			}
		} else {
			left++
			if s.Stem.End != sure.Stem.End || !slices.Equal(s.Queue, sure.Queue) {
				t.Fatalf("%+v: it was %v, and is %v", y, sure, s)
			}
		}
		if got := a.Report(n); !kept(got, was) {
			t.Fatalf("%+v: it was %v, and is %v", y, was, got)
		}
	}
	if spoilt < 100 || left < 100 {
		t.Errorf("%d spoilt, %d left", spoilt, left)
	}
}

func first[T any](x T, e api.Errno) T { return x }

// P5, by Calm itself: of 60 rounds, behind scripts of at most 30 writes that were answered OK, or lost their answer.
func TestP5_Calm(t *testing.T) {
	for i := range 40 {
		x := forest()[i%7]
		r := rand.New(rand.NewSource(int64(500 + i)))
		c := []climate{fair, foul, broken}[i%3]
		a := made(t, x, 3+r.Intn(900)*(i%2))
		for range 500 {
			if ok, lost := acknowledged(a); len(ok)+lost >= 30 {
				c[arbor.Write] = 0
			}
			a.Do(some(r, x, c))
		}
		for n := range x {
			if i%3 == 2 {
				a.Do(arbor.Act{Kind: arbor.Crash, A: n})
			}
		}
		a.Do(arbor.Act{Kind: arbor.Calm, A: 60})
		root := first(a.Sure(0))
		ok, _ := acknowledged(a)
		for n := range x {
			got := a.Report(n)
			if !a.Up(n) || len(got.Queue) > 0 || got.End != root.Stem.End {
				t.Fatalf("script %d: node %d: %v", i, n, got)
			}
			for _, cell := range a.Report(0).Cells {
				if v, e := a.Read(n, cell.Key); has(x[n].Reach, cell.Key) && (e != api.OK || v != cell.Value) {
					t.Fatalf("script %d: node %d reads %v at %s", i, n, v, cell.Key)
				}
			}
		}
		for _, w := range ok {
			if w.Id.Seq > root.Stem.Lasts[w.Id.Dev] && !slices.ContainsFunc(a.Report(0).Known, func(y api.Write) bool { return y == w }) {
				t.Fatalf("script %d: %v isn't in the order", i, w)
			}
		}
	}
}

// P6: a parcel of which one bit is turned is as one that is lost.
func TestP6_SpoiltIsLost(t *testing.T) {
	r := rand.New(rand.NewSource(6))
	for i := range 120 {
		x := forest()[i%6]
		a, b := made(t, x, 3), made(t, x, 3)
		for range 150 {
			y := some(r, x, fair)
			if n := len(a.Air()); y.Kind == arbor.Deliver && n > 0 && r.Intn(4) == 0 {
				bit := arbor.Act{Kind: arbor.Turn, A: y.A, B: r.Intn(1 << 20)}
				if a.Do(bit) != api.OK || a.Do(y) != api.OK {
					t.Fatal("Turn, Deliver")
				}
				b.Do(arbor.Act{Kind: arbor.Lose, A: y.A})
				b.Do(arbor.Act{}) // as many steps
				continue
			}
			a.Do(y)
			b.Do(y)
		}
		if !same(tell(a), tell(b)) {
			t.Fatalf("script %d: spoilt isn't lost", i)
		}
	}
}
