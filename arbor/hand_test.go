package arbor_test

import (
	"math"
	"math/rand"
	"reflect"
	"slices"
	"strconv"
	"strings"
	"testing"

	"spinney/api"
	"spinney/arbor"
	"spinney/bough"
	"spinney/deed"
	"spinney/pith"
	"spinney/stamp"
	"spinney/trellis"
)

const least, greatest = math.MinInt, math.MaxInt

func num(n int) api.Value { return api.Value{Kind: api.Int, Num: n} }

// op is that of a line.
func op(s string) api.Op {
	o, e := deed.Read(s)
	if e != api.OK {
		panic("no operation: " + s)
	}
	return o
}

// tree is that of a text, its lines with a semicolon between.
func tree(s string) trellis.Tree {
	if s != "" {
		s = strings.ReplaceAll(s, ";", "\n") + "\n"
	}
	t, e := trellis.Read(s)
	if e != api.OK {
		panic("no tree: " + s)
	}
	return t
}

// forest are trees of several forms.
func forest() []trellis.Tree {
	return []trellis.Tree{
		tree("hub 0 *;device 1 *"),
		tree("hub 0 *;hub 0 *;device 1 *;device 2 *;device 1 *"),
		tree("hub 0 a,b;hub 1 a;device 2 a;device 1 b;device 0 *;hub 0 *;device 6 b"),
		tree("hub 0 *;hub 1 *;hub 2 *;device 3 *;device 1 *;device 3 a"),
		tree("hub 0 a,b,c;hub 1 a,b;hub 0 *;device 1 a,c;device 2 a.x,b;device 3 c;device 3 *;device 0 b;hub 3 a;device 9 a.x"),
		tree("device 0 *;device 0 a"),
		tree(""),
	}
}

func made(t *testing.T, x trellis.Tree, patience int) *arbor.Arbor {
	t.Helper()
	a, e := arbor.New(x, patience)
	if e != api.OK {
		t.Fatalf("New: %d", e)
	}
	return a
}

// told is all that an arbor tells, events apart, as these are gone then.
type told struct {
	steps   int
	up      []bool
	reports []bough.Report
	sure    []pith.State
	errors  []api.Errno
	history []arbor.Record
	air     string
}

func tell(a *arbor.Arbor) told {
	x := told{steps: a.Steps(), history: a.History()}
	for n := range a.Nodes() {
		s, e := a.Sure(n)
		x.up, x.reports, x.sure, x.errors = append(x.up, a.Up(n)), append(x.reports, a.Report(n)), append(x.sure, s), append(x.errors, e)
	}
	for _, p := range a.Air() {
		x.air += strconv.Itoa(p.From) + ">" + strconv.Itoa(p.To) + string(p.Bytes) + ";"
	}
	return x
}

func same(a, b told) bool { return reflect.DeepEqual(a, b) }

// fold is what writes come to, of a reach.
func fold(l []api.Write, r api.Reach) []api.Cell {
	m := map[string]api.Value{}
	for _, w := range l {
		if has(r, w.Op.Key) {
			m[w.Op.Key], _ = deed.Do(w.Op, m[w.Op.Key])
		}
	}
	var all []api.Cell
	for k, v := range m {
		if v.Kind != api.None {
			all = append(all, api.Cell{Key: k, Value: v})
		}
	}
	slices.SortFunc(all, func(a, b api.Cell) int { return strings.Compare(a.Key, b.Key) })
	return all
}

func has(r api.Reach, key string) bool {
	return slices.ContainsFunc(r, func(p string) bool { return strings.HasPrefix(key, p) })
}

func pick(r api.Reach, l []api.Write) []api.Write {
	return slices.DeleteFunc(slices.Clone(l), func(w api.Write) bool { return !has(r, w.Op.Key) })
}

// behind is a list, and behind it what of another one it hasn't.
func behind(l, more []api.Write) []api.Write {
	all := slices.Clone(l)
	for _, w := range more {
		if stamp.Find(l, w.Id) < 0 {
			all = append(all, w)
		}
	}
	return all
}

// climate has a weight for each kind of act.
type climate [16]int

var (
	fair   = climate{arbor.Write: 3, arbor.Deliver: 12, arbor.Tick: 6, arbor.Cut: 1, arbor.Move: 1, arbor.Watch: 1}
	foul   = climate{arbor.Write: 3, arbor.Deliver: 12, arbor.Lose: 2, arbor.Double: 3, arbor.Turn: 1, arbor.Tick: 7, arbor.Crash: 1, arbor.Start: 3, arbor.Move: 1, arbor.Cut: 1, arbor.Fail: 1, arbor.Watch: 1}
	broken = climate{arbor.Write: 3, arbor.Deliver: 12, arbor.Lose: 1, arbor.Double: 2, arbor.Turn: 1, arbor.Tick: 7, arbor.Crash: 2, arbor.Start: 5, arbor.Move: 1, arbor.Cut: 2, arbor.Arm: 3, arbor.Fail: 1, arbor.Watch: 1}
)

// some is an act by chance.
func some(r *rand.Rand, t trellis.Tree, c climate) arbor.Act {
	total := 0
	for _, n := range c {
		total += n
	}
	k, kind := r.Intn(total), 0
	for k >= c[kind] {
		k -= c[kind]
		kind++
	}
	x := arbor.Act{Kind: kind, A: r.Intn(len(t))}
	key := func(n int) string {
		if len(t[n].Reach) == 0 {
			return "q"
		}
		p := t[n].Reach[r.Intn(len(t[n].Reach))]
		return p + string("abc"[r.Intn(3)])
	}
	switch kind {
	case arbor.Write:
		for range 9 {
			if t[x.A].Kind != trellis.Device {
				x.A = r.Intn(len(t))
			}
		}
		k := key(x.A)
		n := strconv.Itoa(r.Intn(5))
		x.Op = op([]string{"put " + k + " " + n, "del " + k, "add " + k + " " + n, "cas " + k + " " + n + " nil", "cas " + k + " nil " + n, "put " + k + " \"t" + n + "\""}[r.Intn(6)])
	case arbor.Deliver, arbor.Lose, arbor.Double:
		x.A = r.Intn(12)
	case arbor.Turn:
		x.A, x.B = r.Intn(12), r.Intn(5000)
	case arbor.Crash:
		x.B = r.Intn(1 << 30)
	case arbor.Move:
		x.B = r.Intn(len(t))
	case arbor.Arm:
		x.B = r.Intn(25)
	case arbor.Watch:
		x.Key = key(x.A)
	}
	return x
}
