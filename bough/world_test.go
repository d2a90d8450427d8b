package bough_test

import (
	"math/rand"
	"slices"
	"strconv"
	"strings"
	"testing"

	"spinney/api"
	"spinney/bough"
	"spinney/deed"
	"spinney/letter"
	"spinney/pith"
	"spinney/reach"
	"spinney/roll"
	"spinney/roster"
	"spinney/slate"
	"spinney/stamp"
	"spinney/vault"
)

// world are all nodes of ours, their slates, and letters between them.
type world struct {
	t      *testing.T
	r      *rand.Rand
	nodes  []*bough.Node
	slates []*slate.Slate
	air    []letter.Letter
	lows   []int // the last low that each node told in this life
	wilds  bool  // letters come that nobody tells: then what is told need not be good
	ok     []api.Write
}

func newWorld(t *testing.T, seed int64) *world {
	w := &world{t: t, r: rand.New(rand.NewSource(seed))}
	for n := range ours() {
		s := slate.New()
		w.nodes, w.slates, w.lows = append(w.nodes, opened(t, n, s)), append(w.slates, s), append(w.lows, 0)
	}
	return w
}

// tells has letters be on their way, and looks at the lows that they tell (P23.4).
func (w *world) tells(n int, l []letter.Letter) {
	w.t.Helper()
	for _, x := range l {
		if w.wilds {
			if x.To >= 0 && x.To < len(w.nodes) {
				w.air = append(w.air, x)
			}
			continue
		}
		if x.From != n || !letter.Good(x) {
			w.t.Fatalf("node %d tells %s", n, tell(x))
		}
		if x.Kind == letter.Offer {
			if x.Low < w.lows[n] {
				w.t.Fatalf("P23.4: node %d tells a low of %d behind %d", n, x.Low, w.lows[n])
			}
			w.lows[n] = x.Low
		}
		w.air = append(w.air, x)
	}
}

// step does something by chance at some node.
func (w *world) step() {
	w.t.Helper()
	n := w.r.Intn(len(w.nodes))
	x := w.nodes[n]
	switch k := w.r.Intn(20); {
	case k < 2:
		key := []string{"a.x", "a.x1", "b", "b2"}[w.r.Intn(4)]
		line := []string{"put " + key + " " + strconv.Itoa(w.r.Intn(9)), "add " + key + " 1", "del " + key, "cas " + key + " nil 3"}[w.r.Intn(4)]
		if id, e := x.Write(op(line)); e == api.OK {
			w.ok = append(w.ok, api.Write{Id: id, Op: op(line)})
		}
	case k < 7:
		w.tells(n, x.Tick())
	case k == 7 && w.r.Intn(3) == 0:
		x.Move(w.r.Intn(len(w.nodes)))
	case k == 8 && w.r.Intn(2) == 0:
		if e := x.Cut(); e != api.OK {
			w.t.Fatalf("Cut: %d", e)
		}
	case k == 9 && w.r.Intn(4) == 0: // the power goes
		keep := make([]bool, w.slates[n].Pending())
		for i := range keep {
			keep[i] = w.r.Intn(2) == 0
		}
		w.slates[n] = w.slates[n].Crash(keep)
		w.nodes[n], w.lows[n] = opened(w.t, n, w.slates[n]), 0
	case k > 9 && len(w.air) > 0:
		i := w.r.Intn(min(len(w.air), 8))
		l := w.air[i]
		if w.r.Intn(8) > 0 { // else it comes again
			w.air = slices.Delete(w.air, i, i+1)
		}
		if w.r.Intn(12) > 0 { // else it is lost
			w.tells(l.To, w.nodes[l.To].Hear(l))
		}
	}
	w.looks(n)
}

// looks looks at what P23.3 and P23.4 say of a node.
func (w *world) looks(n int) {
	w.t.Helper()
	x := w.nodes[n]
	r, s := x.Report(), x.State()
	if r.Low > r.End || r.Base > r.End || r.End != s.Stem.End {
		w.t.Fatalf("P23.4: %s", tell(r))
	}
	for _, c := range r.Sessions {
		if c.Joined && r.Low > c.Low {
			w.t.Fatalf("P23.4: %s", tell(r))
		}
	}
	if !slices.Equal(r.Known, roll.Writes(s.Stem.Lines)) || !slices.Equal(r.Tail, s.Tail) || !slices.Equal(r.Queue, s.Queue) {
		w.t.Fatalf("P23.3: %s of %s", tell(r), tell(s))
	}
	all := slices.Clone(r.Known)
	for _, part := range [][]api.Write{r.Tail, r.Queue} {
		had := slices.Clone(all)
		for _, y := range part {
			if stamp.Find(had, y.Id) < 0 {
				all = append(all, y)
			}
		}
	}
	seen := map[string]api.Value{}
	for _, c := range s.Stem.Cells {
		seen[c.Key] = c.Value
	}
	for _, y := range all {
		seen[y.Op.Key], _ = deed.Do(y.Op, seen[y.Op.Key])
	}
	some := 0
	for key, v := range seen {
		if got, e := x.Read(key); e != api.OK || got != v || !reach.Has(s.Reach, key) {
			w.t.Fatalf("P23.3: node %d reads %v, %d at %s, not %v", n, got, e, key, v)
		}
		if v.Kind != api.None {
			some++
		}
	}
	if len(r.Cells) != some {
		w.t.Fatalf("P23.3: node %d sees %v", n, r.Cells)
	}
}

// P23.3, P23.4: what each node sees, and its low, over calls by chance.
func TestP23_3_ByChance(t *testing.T) {
	for seed := range int64(25) {
		w := newWorld(t, seed)
		for range 1500 {
			w.step()
		}
		if w.nodes[0].Report().End == 0 {
			t.Errorf("seed %d: nothing comes to the root", seed)
		}
	}
}

// promised is what a node has told, or answered with OK.
type promised struct {
	end    int
	lasts  roll.Lasts
	writes []api.Write
}

// holds looks at P23.2: what is there behind a loss of power.
func (p promised) holds(t *testing.T, who int, s *slate.Slate) {
	t.Helper()
	v, e := vault.Open(s)
	if e != api.OK {
		t.Fatalf("it is gone: %d", e)
	}
	x := v.State()
	if x.Stem.End < p.end || !roster.Covers(pith.Lasts(x), p.lasts) {
		t.Fatalf("it has the end %d, the lasts %v, and told %d, %v", x.Stem.End, pith.Lasts(x), p.end, p.lasts)
	}
	for _, w := range p.writes {
		if w.Id.Seq > roster.Of(x.Stem.Lasts, roll.Writes(x.Stem.Lines))[w.Id.Dev] && !slices.Contains(x.Queue, w) {
			t.Fatalf("%v is lost", w.Id)
		}
	}
	n := opened(t, who, s)
	if r := n.Report(); r.End != x.Stem.End || !slices.Equal(r.Queue, x.Queue) || r.Life != x.Life+1 {
		t.Fatalf("opened it is %s", tell(r))
	}
}

// calls are of a device and of a hub: each tells how much it promises.
func calls(who int) []func(n *bough.Node) (told bool, own []api.Write) {
	wrote := func(line string) func(n *bough.Node) (bool, []api.Write) {
		return func(n *bough.Node) (bool, []api.Write) {
			id, e := n.Write(op(line))
			if e != api.OK {
				return false, nil
			}
			return true, []api.Write{{Id: id, Op: op(line)}}
		}
	}
	heard := func(l letter.Letter) func(n *bough.Node) (bool, []api.Write) {
		return func(n *bough.Node) (bool, []api.Write) { return len(n.Hear(l)) > 0, nil }
	}
	tick := func(n *bough.Node) (bool, []api.Write) { return len(n.Tick()) > 0, nil }
	cut := func(n *bough.Node) (bool, []api.Write) { return n.Cut() == api.OK, nil }
	if who == 1 {
		return []func(n *bough.Node) (bool, []api.Write){
			heard(hello(2, 1, 1, 0)), heard(offer(2, 1, 1, 0, 0, 1, 1, "2/1 put b 1", "2/2 put b 2", "2/3 put b 3")), tick, heard(update(0, 1, 1, 5, 0, 0, 2, lines(0, "2/1 put b 1", "4/1 put a 1"))), tick, heard(offer(2, 1, 1, 1, 1, 4, 1, "2/4 put b 1")), cut, tick, heard(snap(update(0, 1, 1, 6, 0, 9, 10, nil, "4/3 put a 1"), cells("b", 7), roll.Lasts{2: 3, 4: 2})), tick, cut,
		}
	}
	return []func(n *bough.Node) (bool, []api.Write){
		wrote("put b 1"), wrote("put b 2"), tick, heard(update(1, 2, 1, 5, 0, 0, 3, lines(1, "2/1 put b 1"), "4/1 put b 9")), tick, wrote("put a.x 3"), cut, func(n *bough.Node) (bool, []api.Write) { return n.Move(0) == api.OK, nil }, tick, heard(snap(update(0, 2, 2, 6, 0, 9, 11, lines(10, "2/3 put a.x 3")), cells("b", 7), roll.Lasts{2: 2})), wrote("del b"), tick, cut, tick,
	}
}

// P23.2: for each budget, and every way of what is kept (some by chance, if there are too many).
func TestP23_2_WhereverThePowerGoes(t *testing.T) {
	r := rand.New(rand.NewSource(232))
	for _, who := range []int{1, 2} {
		for budget := 0; ; budget++ {
			n, s := fresh(t, who)
			var p promised
			s.Arm(budget)
			for _, call := range calls(who) {
				told, own := call(n)
				if !told {
					continue
				}
				x := n.State()
				p = promised{x.Stem.End, pith.Lasts(x), append(p.writes, own...)}
			}
			dead := s.Dead()
			for range 40 {
				keep := make([]bool, s.Pending())
				for i := range keep {
					keep[i] = r.Intn(2) == 0
				}
				p.holds(t, who, s.Crash(keep))
			}
			p.holds(t, who, s.Crash(nil))
			p.holds(t, who, s.Crash(slices.Repeat([]bool{true}, s.Pending())))
			if !dead {
				if p.end < 10 {
					t.Errorf("node %d: %v", who, p)
				}
				break
			}
		}
	}
}

// P23.2, over calls by chance: behind each the power goes, with whatever kept.
func TestP23_2_ByChance(t *testing.T) {
	for seed := range int64(8) {
		w := newWorld(t, 1000+seed)
		for range 600 {
			w.step()
			n := w.r.Intn(len(w.nodes))
			x := w.nodes[n].State()
			p := promised{x.Stem.End, pith.Lasts(x), nil}
			for _, y := range w.ok {
				if y.Id.Dev == n {
					p.writes = append(p.writes, y)
				}
			}
			keep := make([]bool, w.slates[n].Pending())
			for i := range keep {
				keep[i] = w.r.Intn(2) == 0
			}
			p.holds(t, n, w.slates[n].Crash(keep))
		}
	}
}

// P23.1: whatever letters come, good ones or none, nothing panics, and what is seen stays as it must be.
func TestP23_1_AnyLetters(t *testing.T) {
	for seed := range int64(12) {
		w := newWorld(t, 2000+seed)
		w.wilds = true
		for i := range 600 {
			w.step()
			n := w.r.Intn(len(w.nodes))
			for _, l := range w.wild(n) {
				w.nodes[n].Hear(l)
			}
			w.looks(n)
			if i%50 == 0 { // bytes of any kind, as letters
				if l, e := letter.Decode([]byte(strings.Repeat("\xe5\x01\x00", i))); e == api.OK {
					w.nodes[n].Hear(l)
				}
			}
		}
	}
}

// wild are letters with fields by chance, some of them made of what is on its way.
func (w *world) wild(n int) []letter.Letter {
	numbers := []int{least, -1, 0, 1, 2, 3, 5, 12, 40, 41, 4095, 4096, 4097, 1 << 20, 1 << 30, 1 << 40, 1<<40 + 1, greatest}
	any := func() int { return numbers[w.r.Intn(len(numbers))] }
	r := w.nodes[n].Report()
	l := letter.Letter{Kind: w.r.Intn(6), From: w.r.Intn(6), To: n, Life: 1 + w.r.Intn(3), Turn: 1 + w.r.Intn(4)}
	if len(w.air) > 0 && w.r.Intn(2) == 0 {
		l = w.air[w.r.Intn(len(w.air))]
		l.To = n
	}
	if w.r.Intn(3) == 0 {
		l.From, l.Life, l.Turn = r.Parent, r.Life, r.Turn
	}
	for range 1 + w.r.Intn(4) {
		fields := []*int{&l.Kind, &l.From, &l.To, &l.Life, &l.Turn, &l.Prefix, &l.Low, &l.First, &l.Stamp, &l.Taken, &l.Start, &l.End}
		*fields[w.r.Intn(len(fields))] = any()
	}
	switch w.r.Intn(8) {
	case 0:
		l.Snap = !l.Snap
	case 1:
		l.Writes = append(slices.Clone(l.Writes), api.Write{Id: api.Id{Dev: any(), Seq: any()}, Op: op("put b 1")})
	case 2:
		l.Lines = append(slices.Clone(l.Lines), roll.Line{At: any(), Write: write("5/1 put c 1")})
	case 3:
		l.Reach = api.Reach{"b", "a", "\xff"}
	case 4:
		l.Cells = []api.Cell{{Key: "c"}, {Key: "a", Value: num(1)}}
	case 5:
		l.Lasts[w.r.Intn(12)] = any()
	}
	return []letter.Letter{l, l}
}
