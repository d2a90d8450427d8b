package arbor_test

import (
	"math/rand"
	"slices"
	"testing"

	"spinney/api"
	"spinney/arbor"
	"spinney/bough"
	"spinney/roll"
	"spinney/stamp"
	"spinney/trellis"
)

// watcher does acts upon an arbor, and looks behind each of them at what P1 to P4, P7 and P8 say.
type watcher struct {
	t       *testing.T
	tree    trellis.Tree
	a       *arbor.Arbor
	acts    []arbor.Act
	order   []api.Write    // the root's, as it was seen to grow
	views   [][]view       // of each node each end and what it saw behind that
	parents [][]int        // of each node those that it had
	watched []map[int]seen // of each node the keys in the order in which they were watched
	reports []bough.Report // behind the last act, or ahead of the crash
	up      []bool
}

type view struct {
	end    int
	behind []api.Write
}

type seen struct {
	key  string
	last api.Value
}

func watch(t *testing.T, x trellis.Tree, patience int) *watcher {
	w := &watcher{t: t, tree: x, a: made(t, x, patience)}
	for n := range x {
		w.views = append(w.views, []view{{}})
		w.parents = append(w.parents, []int{x[n].Parent})
		w.watched = append(w.watched, map[int]seen{})
		w.reports = append(w.reports, w.a.Report(n))
		w.up = append(w.up, true)
	}
	return w
}

func (w *watcher) fatal(format string, l ...any) {
	w.t.Helper()
	w.t.Logf("behind %d acts, the last %+v, tree %q", len(w.acts), w.acts[len(w.acts)-1], trellis.Text(w.tree))
	w.t.Fatalf(format, l...)
}

// do does an act.
func (w *watcher) do(x arbor.Act) api.Errno {
	w.t.Helper()
	w.acts = append(w.acts, x)
	to := -1
	if l := w.a.Air(); x.Kind == arbor.Deliver && len(l) > 0 {
		to = l[int(uint(x.A)%uint(len(l)))].To
	}
	e := w.a.Do(x)
	if w.a.Steps() != len(w.acts) {
		w.fatal("%d steps", w.a.Steps())
	}
	if w.a.Up(0) && (to == 0 || x.A == 0) {
		w.grows()
	}
	for n := range w.tree {
		touched := x.A == n
		switch x.Kind {
		case arbor.Deliver, arbor.Lose, arbor.Double, arbor.Turn:
			touched = n == to
		case arbor.Fail:
			touched = slices.Contains(w.parents[n], x.A)
		}
		w.looks(n, x, e, touched)
	}
	return e
}

// grows has the order that is known here be the root's (P2).
func (w *watcher) grows() {
	w.t.Helper()
	r := w.a.Report(0)
	if r.End < len(w.order) || r.End-r.Base != len(r.Known) || r.Base > len(w.order) {
		w.fatal("the root has %d to %d of %d", r.Base, r.End, len(w.order))
	}
	for i, x := range r.Known {
		if at := r.Base + i; at < len(w.order) && w.order[at] != x {
			w.fatal("the root has another write at %d", at)
		} else if at >= len(w.order) {
			w.order = append(w.order, x)
		}
	}
	if !stamp.Single(w.order) || !stamp.Tight(w.order) {
		w.fatal("the order: %v", stamp.Ids(w.order))
	}
	for _, x := range w.order {
		if x.Id.Seq == 1 {
			continue
		}
		if stamp.Find(w.order, api.Id{Dev: x.Id.Dev, Seq: x.Id.Seq - 1}) < 0 {
			w.fatal("%v has none ahead", x.Id)
		}
	}
}

// looks looks at a node behind an act.
func (w *watcher) looks(n int, x arbor.Act, e api.Errno, touched bool) {
	w.t.Helper()
	if !touched && len(w.acts)%5 > 0 { // what another act changed here would show later, too
		return
	}
	r, up := w.a.Report(n), w.a.Up(n)
	if !touched && (up != w.up[n] || !equal(r, w.reports[n]) && up) {
		w.fatal("P7: node %d has changed", n)
	}
	if up {
		w.sees(n, r)
		w.sure(n, r)
		w.parent(n, x, e, r)
	}
	w.events(n, x, e, up)
	w.up[n] = up
	if up {
		w.reports[n] = r
	}
}

func equal(a, b bough.Report) bool {
	return a.Node == b.Node && a.Life == b.Life && a.Parent == b.Parent && a.Base == b.Base && a.End == b.End && a.Low == b.Low && a.Turn == b.Turn && a.Joined == b.Joined && slices.Equal(a.Queue, b.Queue) && slices.Equal(a.Tail, b.Tail) && slices.Equal(a.Known, b.Known) && slices.Equal(a.Cells, b.Cells) && len(a.Sessions) == len(b.Sessions)
}

// sees looks at P1.
func (w *watcher) sees(n int, r bough.Report) {
	w.t.Helper()
	reach := w.tree[n].Reach
	if r.End > len(w.order) {
		w.fatal("P1: node %d knows up to %d of %d", n, r.End, len(w.order))
	}
	known := pick(reach, w.order[:r.End])
	tailed := behind(known, r.Tail)
	all := behind(tailed, r.Queue)
	if !slices.Equal(fold(all, reach), r.Cells) {
		w.fatal("P1: node %d sees %v, not %v", n, r.Cells, fold(all, reach))
	}
	if !slices.Equal(r.Known, pick(reach, w.order[r.Base:r.End])) {
		w.fatal("P1: node %d knows %v", n, stamp.Ids(r.Known))
	}
	for _, x := range slices.Concat(r.Tail, r.Queue) {
		if !has(reach, x.Op.Key) {
			w.fatal("P1: node %d has %v", n, x)
		}
	}
	now := view{r.End, all[len(known):]}
	if n != 0 && !slices.ContainsFunc(w.parents[n], func(p int) bool {
		return slices.ContainsFunc(w.views[p], func(v view) bool { return v.end == r.End && slices.Equal(pick(reach, v.behind), r.Tail) })
	}) {
		w.fatal("P1: no parent of node %d, %v, had the end %d and the tail %v", n, w.parents[n], r.End, stamp.Ids(r.Tail))
	}
	if l := w.views[n]; l[len(l)-1].end != now.end || !slices.Equal(l[len(l)-1].behind, now.behind) {
		w.views[n] = append(w.views[n], now)
	}
	for _, key := range []string{"a", "aa", "b", "bb", "a.xa", "ca", "c"} {
		v, e := w.a.Read(n, key)
		if e == api.ErrReach && !has(reach, key) {
			continue
		}
		i := slices.IndexFunc(r.Cells, func(c api.Cell) bool { return c.Key == key })
		if e != api.OK || i < 0 && v != (api.Value{}) || i >= 0 && v != r.Cells[i].Value {
			w.fatal("P1: node %d reads %v, %d at %s", n, v, e, key)
		}
	}
}

// sure looks at P3: what a node shows is what its slate has surely; and at P4: what stands at its base.
func (w *watcher) sure(n int, r bough.Report) {
	w.t.Helper()
	s, e := w.a.Sure(n)
	if e != api.OK || s.Life != r.Life || s.Parent != r.Parent || s.Stem.Base != r.Base || s.Stem.End != r.End || !slices.Equal(s.Tail, r.Tail) || !slices.Equal(s.Queue, r.Queue) || !slices.Equal(roll.Writes(s.Stem.Lines), r.Known) {
		w.fatal("P3: node %d has surely %v, %d, and shows %v", n, s, e, r)
	}
	if !slices.Equal(s.Stem.Cells, fold(w.order[:r.Base], w.tree[n].Reach)) {
		w.fatal("P4: at the base %d of node %d stands %v", r.Base, n, s.Stem.Cells)
	}
}

// parent looks at P7: parents change by moves alone.
func (w *watcher) parent(n int, x arbor.Act, e api.Errno, r bough.Report) {
	w.t.Helper()
	was := w.reports[n].Parent
	if r.Parent == was {
		return
	}
	moved := x.Kind == arbor.Move && x.A == n && x.B == r.Parent && e == api.OK || x.Kind == arbor.Fail && was == x.A && r.Parent == w.tree[x.A].Parent
	// A move within which the power went may be kept, and shows behind the next Start.
	lost := x.Kind == arbor.Start && slices.ContainsFunc(w.acts, func(y arbor.Act) bool {
		return y.Kind == arbor.Move && y.A == n && y.B == r.Parent || y.Kind == arbor.Fail && y.A == was && w.tree[y.A].Parent == r.Parent
	})
	if !moved && !lost {
		w.fatal("P7: the parent of node %d is %d, not %d", n, r.Parent, was)
	}
	w.parents[n] = append(w.parents[n], r.Parent)
}

// events looks at P8.
func (w *watcher) events(n int, x arbor.Act, e api.Errno, up bool) {
	w.t.Helper()
	got := w.a.Events(n)
	if x.Kind == arbor.Start && x.A == n && e == api.OK || !up {
		w.watched[n] = map[int]seen{}
	}
	var want []api.Cell
	for i := range len(w.watched[n]) {
		s := w.watched[n][i]
		if v, _ := w.a.Read(n, s.key); v != s.last {
			want = append(want, api.Cell{Key: s.key, Value: v})
			w.watched[n][i] = seen{s.key, v}
		}
	}
	if !slices.Equal(got, want) {
		w.fatal("P8: events of node %d: %v, want %v", n, got, want)
	}
	if x.Kind == arbor.Watch && x.A == n && e == api.OK {
		v, _ := w.a.Read(n, x.Key)
		w.watched[n][len(w.watched[n])] = seen{x.Key, v}
	}
}

// cut does a Cut, and looks at P4.
func (w *watcher) cut(n int) {
	w.t.Helper()
	was := w.a.Report(n)
	e := w.do(arbor.Act{Kind: arbor.Cut, A: n})
	if e != api.OK {
		return
	}
	r := w.a.Report(n)
	if r.End != was.End || !slices.Equal(r.Cells, was.Cells) || !slices.Equal(r.Tail, was.Tail) || !slices.Equal(r.Queue, was.Queue) {
		w.fatal("P4: a cut of node %d has changed what is seen", n)
	}
	if r.Base != max(was.Base, was.Low) {
		w.fatal("P4: node %d, of a low of %d, is cut at %d, from %d", n, was.Low, r.Base, was.Base)
	}
	if r.Base > was.Base {
		w.under(n, r.Base, 0)
	}
}

// under looks whether all that are registered under a node know what is ahead of a place.
func (w *watcher) under(n, place, depth int) {
	w.t.Helper()
	for _, s := range w.a.Report(n).Sessions {
		c := w.a.Report(s.Child)
		if !s.Joined || !w.a.Up(s.Child) || c.Life != s.Life || c.Turn != s.Turn || c.Parent != n || depth > 5 {
			continue
		}
		if c.End < place {
			w.fatal("P4: node %d, under %d, knows %d alone: cut at %d", s.Child, n, c.End, place)
		}
		w.under(s.Child, place, depth+1)
	}
}

// acknowledged are the ids whose Write was answered OK, and those that were issued, or may have been.
func acknowledged(a *arbor.Arbor) (ok []api.Write, lost int) {
	for _, r := range a.History() {
		switch r.Err {
		case api.OK:
			ok = append(ok, api.Write{Id: r.Id, Op: r.Op})
		case api.ErrDead:
			lost++
		}
	}
	return ok, lost
}

// kept looks at P2: each write that was answered OK is in the order, or surely in its device's queue; each of the order was issued.
func (w *watcher) kept() {
	w.t.Helper()
	ok, _ := acknowledged(w.a)
	for _, x := range ok {
		s, e := w.a.Sure(x.Id.Dev)
		if !slices.Contains(w.order, x) && (e != api.OK || !slices.Contains(s.Queue, x)) {
			// The root may have it surely, though it went down ahead of showing it.
			if root, e := w.a.Sure(0); e == api.OK && slices.Contains(roll.Writes(root.Stem.Lines), x) {
				continue
			}
			w.fatal("P2: %v is lost", x)
		}
	}
	for _, x := range w.order {
		if slices.Contains(ok, x) {
			continue
		}
		if !slices.ContainsFunc(w.a.History(), func(r arbor.Record) bool {
			return r.Node == x.Id.Dev && r.Op == x.Op && r.Err == api.ErrDead
		}) {
			w.fatal("P2: %v wasn't issued", x)
		}
	}
}

// calm is as a Calm, act by act, so that all is looked at.
func (w *watcher) calm(rounds int) {
	w.t.Helper()
	for range rounds {
		for range 3000 {
			if w.do(arbor.Act{Kind: arbor.Deliver}) != api.OK {
				break
			}
		}
		for n := range w.tree {
			if w.a.Up(n) {
				w.do(arbor.Act{Kind: arbor.Tick, A: n})
			} else {
				w.do(arbor.Act{Kind: arbor.Start, A: n})
			}
		}
	}
}

// goesOn looks at P5.
func (w *watcher) goesOn() {
	w.t.Helper()
	ok, _ := acknowledged(w.a)
	for _, x := range ok {
		if !slices.Contains(w.order, x) {
			w.fatal("P5: %v isn't in the order", x)
		}
	}
	for n := range w.tree {
		r := w.a.Report(n)
		if !w.a.Up(n) || len(r.Queue) > 0 || !slices.Equal(r.Cells, fold(w.order, w.tree[n].Reach)) {
			w.fatal("P5: node %d: up %v, %v, of %d", n, w.a.Up(n), r, len(w.order))
		}
	}
}

// script does so many acts by chance, of which at most 30 are writes that were answered OK, or lost their answer.
func (w *watcher) script(r *rand.Rand, c climate, acts int) {
	w.t.Helper()
	for i := range acts {
		if ok, lost := acknowledged(w.a); len(ok)+lost >= 30 {
			c[arbor.Write] = 0
		}
		x := some(r, w.tree, c)
		if x.Kind == arbor.Cut {
			w.cut(x.A)
			continue
		}
		w.do(x)
		if i%20 == 0 {
			w.kept()
		}
	}
	w.kept()
}

// P1 to P5, P7, P8, over scripts out of many seeds.
func TestP1toP8_Scripts(t *testing.T) {
	for i, c := range []climate{fair, foul, broken} {
		for j, x := range forest() {
			t.Run("", func(t *testing.T) {
				t.Parallel()
				for seed := range 4 {
					scripted(t, x, c, rand.New(rand.NewSource(int64(seed+100*i+1000*j))))
				}
			})
		}
	}
}

// scripted looks at one script, and what a calm of 60 rounds makes of what it left.
func scripted(t *testing.T, x trellis.Tree, c climate, r *rand.Rand) {
	t.Helper()
	w := watch(t, x, 3+r.Intn(6))
	w.script(r, c, 400)
	// What is armed gives way: the power goes, with nothing kept.
	for n := range x {
		if c[arbor.Arm] > 0 {
			w.do(arbor.Act{Kind: arbor.Crash, A: n})
			w.do(arbor.Act{Kind: arbor.Start, A: n})
		}
	}
	w.calm(60)
	w.kept()
	w.goesOn()
}
