package field_test

import (
	"math/rand"
	"slices"
	"strconv"
	"strings"
	"testing"

	"spinney/api"
	"spinney/field"
	"spinney/reach"
)

// The chapter's example.
func TestP12_1_Example(t *testing.T) {
	f := made(t, nil)
	for i, c := range []struct {
		o    api.Op
		want api.Errno
	}{{put("a", num(1)), api.OK}, {add("a", 2), api.OK}, {del("b"), api.ErrNone}, {add("a", 3), api.OK}} {
		if e := f.Do(write(c.o)); e != c.want || f.Depth() != i+1 {
			t.Errorf("write %d: %d, want %d; depth %d", i, e, c.want, f.Depth())
		}
	}
	if f.At("a") != num(6) {
		t.Errorf("a is %v", f.At("a"))
	}
	if f.Undo() != api.OK || f.Undo() != api.OK || f.At("a") != num(3) || f.Depth() != 2 {
		t.Errorf("a is %v behind two Undos, depth %d", f.At("a"), f.Depth())
	}
}

func TestP12_1_New(t *testing.T) {
	long := strings.Repeat("k", api.MaxKey)
	for _, l := range [][]api.Cell{nil, {}, cells("a", 1), cells("a", 0), cells("a", ""), cells("a", 1, "b", "x"), cells("a", 1, "a.1", 2, "aa", 3), cells("-", 1, ".", 2, "0", 3, "9", 4, "a", 5), cells(long[1:], greatest, long, text(strings.Repeat("t", api.MaxText))), cells("a", least)} {
		is(t, made(t, l), l, nil)
	}
}

func TestP12_1_NewOfBadCells(t *testing.T) {
	for i, l := range [][]api.Cell{
		cells("b", 1, "a", 2), cells("a", 1, "a", 1), cells("a", 1, "a", 2), cells("a", 1, "c", 2, "b", 3), cells("a", 1, "b", 2, "a", 3), cells("aa", 1, "a", 2), cells("a", 1, "b", 2, "b", 3),
		cells("", 1), cells("A", 1), cells("a b", 1), cells("a,b", 1), cells("\xff", 1), cells(strings.Repeat("k", api.MaxKey+1), 1), cells("a", 1, "B", 2), cells("a", 1, "bä", 2),
		cells("a", api.Value{}), cells("a", 1, "b", api.Value{}), cells("a", api.Value{Kind: 3}), cells("a", api.Value{Kind: -1}), cells("a", api.Value{Kind: api.Int, Num: 1, Text: "x"}), cells("a", api.Value{Kind: api.Text, Num: 1}), cells("a", api.Value{Num: 1}), cells("a", strings.Repeat("t", api.MaxText+1)), cells("a", 1, "b", strings.Repeat("t", api.MaxText+1), "c", 1),
		{{}},
	} {
		if f, e := field.New(l); e != api.ErrForm || f != nil {
			t.Errorf("New of bad cells %d, %s: %v, %d", i, tell(l), f != nil, e)
		}
	}
}

// The chapters don't bound how many cells there may be.
func TestP12_1_ManyCells(t *testing.T) {
	var l []api.Cell
	for i := range 30000 {
		l = append(l, api.Cell{Key: "k" + strconv.Itoa(100000+i), Value: num(i)})
	}
	f := made(t, l)
	if !slices.Equal(f.Cells(), l) {
		t.Error("many cells aren't those that were told")
	}
	for i := range 30000 {
		if f.Do(write(add(l[i].Key, 1))) != api.OK || f.At(l[i].Key) != num(i+1) {
			t.Fatalf("an add at %s leaves %v", l[i].Key, f.At(l[i].Key))
		}
	}
	for range 30000 {
		f.Undo()
	}
	if !slices.Equal(f.Cells(), l) || f.Undo() != api.ErrNone {
		t.Error("many cells aren't there any more")
	}
}

// Each operation upon each value, and its undoing.
func TestP12_1_EachOperation(t *testing.T) {
	for _, v := range append(someValues(), api.Value{}) {
		l := cells("b", 7, "c", "x")
		if v.Kind != api.None {
			l = append(cells("a", v), l...)
		}
		ops := []api.Op{del("a")}
		for _, x := range append(someValues(), api.Value{}) {
			if x.Kind != api.None {
				ops = append(ops, put("a", x))
			}
			if x.Kind == api.Int {
				ops = append(ops, add("a", x.Num))
			}
			for _, y := range append(someValues(), api.Value{}) {
				ops = append(ops, cas("a", x, y))
			}
		}
		for _, o := range ops {
			f := made(t, l)
			_, want := handDo(o, v)
			if e := f.Do(write(o)); e != want {
				t.Errorf("%v upon %v: %d, want %d", o, v, e, want)
			}
			is(t, f, l, writes(o))
			if e := f.Undo(); e != api.OK {
				t.Errorf("Undo: %d", e)
			}
			is(t, f, l, nil)
			if e := f.Undo(); e != api.ErrNone {
				t.Errorf("Undo of nothing: %d", e)
			}
			is(t, f, l, nil)
		}
	}
}

// Each of the errors that an operation may fail with: remembered all the same, and undone.
func TestP12_1_Errors(t *testing.T) {
	l := cells("i", 5, "m", greatest, "n", least, "t", "x")
	for _, c := range []struct {
		o api.Op
		e api.Errno
	}{
		{del("a"), api.ErrNone}, {add("a", 1), api.ErrKind}, {add("t", 1), api.ErrKind}, {add("m", 1), api.ErrOver}, {add("n", -1), api.ErrOver}, {add("m", greatest), api.ErrOver}, {add("n", least), api.ErrOver}, {cas("i", num(4), num(1)), api.ErrCase}, {cas("i", text("5"), num(1)), api.ErrCase}, {cas("i", api.Value{}, num(1)), api.ErrCase}, {cas("a", num(0), num(1)), api.ErrCase}, {cas("a", text(""), api.Value{}), api.ErrCase}, {cas("t", text("y"), api.Value{}), api.ErrCase},
		{add("m", -1), api.OK}, {add("m", 0), api.OK}, {add("n", 1), api.OK}, {add("m", least), api.OK}, {cas("a", api.Value{}, num(1)), api.OK}, {cas("a", api.Value{}, api.Value{}), api.OK}, {cas("t", text("x"), api.Value{}), api.OK}, {cas("i", num(5), num(5)), api.OK}, {put("i", num(5)), api.OK}, {put("a", text("")), api.OK}, {del("t"), api.OK},
	} {
		f := made(t, l)
		if e := f.Do(write(c.o)); e != c.e || f.Depth() != 1 {
			t.Errorf("%v: %d, want %d; depth %d", c.o, e, c.e, f.Depth())
		}
		is(t, f, l, writes(c.o))
		if c.e != api.OK && !slices.Equal(f.Cells(), l) {
			t.Errorf("%v fails, and leaves %s", c.o, tell(f.Cells()))
		}
		if e := f.Undo(); e != api.OK || f.Depth() != 0 {
			t.Errorf("Undo of %v: %d, depth %d", c.o, e, f.Depth())
		}
		is(t, f, l, nil)
	}
}

// A write of any id is done by its operation.
func TestP12_1_AnyIds(t *testing.T) {
	for _, id := range []api.Id{{}, {Dev: -1, Seq: -1}, {Dev: 12, Seq: 41}, {Dev: greatest, Seq: least}, {Dev: 1, Seq: 1}} {
		f := made(t, cells("a", 1))
		for i := range 3 { // the same id again is another write
			if e := f.Do(api.Write{Id: id, Op: add("a", 1)}); e != api.OK || f.At("a") != num(2+i) || f.Depth() != i+1 {
				t.Errorf("a write of id %v: %d, %v", id, e, f.At("a"))
			}
		}
	}
}

func TestP12_1_UndoOfNothing(t *testing.T) {
	for _, l := range [][]api.Cell{nil, cells("a", 1, "b", "x")} {
		f := made(t, l)
		for range 3 {
			if e := f.Undo(); e != api.ErrNone {
				t.Errorf("Undo of nothing: %d", e)
			}
			is(t, f, l, nil)
		}
		if e := f.Do(write(put("c", num(1)))); e != api.OK {
			t.Errorf("Do: %d", e)
		}
		is(t, f, l, writes(put("c", num(1))))
	}
}

// The cells are in order, whatever the order of the writes; what was deleted is no cell.
func TestP12_1_CellsAreInOrder(t *testing.T) {
	r := rand.New(rand.NewSource(12))
	for range 200 {
		keys := slices.Clone(someKeys())
		r.Shuffle(len(keys), func(i, j int) { keys[i], keys[j] = keys[j], keys[i] })
		f := made(t, nil)
		var done []api.Write
		for i, k := range keys {
			done = append(done, write(put(k, num(i))))
			f.Do(done[i])
			is(t, f, nil, done)
		}
		for _, k := range keys[:r.Intn(len(keys))] {
			done = append(done, write(del(k)))
			f.Do(done[len(done)-1])
			is(t, f, nil, done)
		}
	}
}

// Many calls, by chance: each answers as by hand.
func TestP12_1_ManyCalls(t *testing.T) {
	r, had := rand.New(rand.NewSource(121)), map[api.Errno]int{}
	for range 150 {
		keys := someKeys()[:1+r.Intn(len(someKeys()))]
		l := someCells(r, keys)
		f := made(t, l)
		var done []api.Write
		for range 60 {
			if r.Intn(3) == 0 {
				e := f.Undo()
				if (e == api.ErrNone) != (len(done) == 0) || e != api.OK && e != api.ErrNone {
					t.Fatalf("Undo of %d writes: %d", len(done), e)
				}
				done = done[:max(0, len(done)-1)]
			} else {
				w := someWrites(r, handCells(l, done), keys, 1)[0]
				done = append(done, w)
				want := api.OK
				if _, e := handAt(l, done, w.Op.Key); e != api.OK {
					want = e
				}
				e := f.Do(w)
				had[e]++
				if e != want {
					t.Fatalf("%v: %d, want %d", w.Op, e, want)
				}
			}
			is(t, f, l, done)
		}
	}
	for _, e := range []api.Errno{api.OK, api.ErrNone, api.ErrKind, api.ErrOver, api.ErrCase} {
		if had[e] < 20 {
			t.Errorf("only so many errors: %v", had)
		}
	}
}

func TestP12_1_Fold(t *testing.T) {
	for _, c := range []struct {
		l    []api.Cell
		ops  []api.Op
		want []api.Cell
	}{
		{nil, nil, nil}, {cells("a", 1), nil, cells("a", 1)}, {nil, []api.Op{put("a", num(1))}, cells("a", 1)}, {cells("a", 1), []api.Op{del("a")}, nil}, {nil, []api.Op{del("a")}, nil},
		{nil, []api.Op{put("b", num(1)), put("a", text("x")), put("c", num(2)), del("c"), add("b", 4), add("a", 1)}, cells("a", "x", "b", 5)},
		{cells("a", 1, "c", "x"), []api.Op{cas("a", num(1), num(2)), cas("a", num(1), num(3)), cas("b", api.Value{}, text("y")), cas("c", text("x"), api.Value{})}, cells("a", 2, "b", "y")},
		{cells("m", greatest), []api.Op{add("m", 1), add("m", -1), add("m", 1)}, cells("m", greatest)},
	} {
		if got := field.Fold(c.l, writes(c.ops...)); !slices.Equal(got, c.want) {
			t.Errorf("Fold of %s and %v: %s, want %s", tell(c.l), c.ops, tell(got), tell(c.want))
		}
	}
	r := rand.New(rand.NewSource(122))
	for range 500 {
		l := someCells(r, someKeys())
		done := someWrites(r, l, someKeys(), r.Intn(30))
		if got, want := field.Fold(l, done), handCells(l, done); !slices.Equal(got, want) {
			t.Fatalf("Fold: %s, want %s", tell(got), tell(want))
		}
		// Folded in two steps it is the same.
		n := r.Intn(len(done) + 1)
		if got := field.Fold(field.Fold(l, done[:n]), done[n:]); !slices.Equal(got, handCells(l, done)) {
			t.Fatalf("Fold in two steps: %s", tell(got))
		}
	}
}

// handOnly are the cells of which a prefix begins the key.
func handOnly(l []api.Cell, r api.Reach) []api.Cell {
	return slices.DeleteFunc(slices.Clone(l), func(c api.Cell) bool {
		return !slices.ContainsFunc(r, func(p string) bool { return strings.HasPrefix(c.Key, p) })
	})
}

// reaches: of no key, of all, of prefixes that are keys, and of such that some keys nearly begin with.
func reaches() []api.Reach {
	return []api.Reach{nil, {}, {""}, {"a"}, {"a."}, {"a.1"}, {"a.10"}, {"a.100"}, {"a.1", "a.2"}, {"aa"}, {"b"}, {"b-"}, {"b."}, {"0", "b", "z"}, {"zzz"}, {"-", ".", "0", "a.1", "b-", "kk"}, {strings.Repeat("k", api.MaxKey)}, {strings.Repeat("k", api.MaxKey-1)}, {"c"}}
}

func TestP12_1_Only(t *testing.T) {
	all := cells("-", 1, "0", "x", "a", 2, "a.1", 3, "a.10", 4, "a.2", 5, "aa", 6, "b", 7, "b-", 8, "zz", "y")
	for _, c := range []struct {
		r    api.Reach
		want string
	}{{nil, ""}, {api.Reach{""}, "- 0 a a.1 a.10 a.2 aa b b- zz"}, {api.Reach{"a"}, "a a.1 a.10 a.2 aa"}, {api.Reach{"a."}, "a.1 a.10 a.2"}, {api.Reach{"a.1"}, "a.1 a.10"}, {api.Reach{"a.10"}, "a.10"}, {api.Reach{"a.100"}, ""}, {api.Reach{"0", "b-", "z"}, "0 b- zz"}, {api.Reach{"zzz"}, ""}} {
		got := field.Only(all, c.r)
		var keys []string
		for _, x := range got {
			keys = append(keys, x.Key)
		}
		if strings.Join(keys, " ") != c.want || !slices.Equal(got, handOnly(all, c.r)) {
			t.Errorf("Only of %q: %s, want %s", c.r, tell(got), c.want)
		}
		if len(field.Only(nil, c.r)) != 0 {
			t.Error("Only of no cells")
		}
	}
	rnd := rand.New(rand.NewSource(123))
	for range 200 {
		l := someCells(rnd, someKeys())
		for _, r := range reaches() {
			if got := field.Only(l, r); !slices.Equal(got, handOnly(l, r)) {
				t.Fatalf("Only of %q: %s", r, tell(got))
			}
		}
	}
}

// P12.2: behind as many Undos as Dos all is as it was; and, in part, as it was ahead of the last ones.
func TestP12_2_ThereAndBack(t *testing.T) {
	r := rand.New(rand.NewSource(124))
	for range 200 {
		keys := someKeys()[:1+r.Intn(len(someKeys()))]
		l := someCells(r, keys)
		done := someWrites(r, l, keys, 25)
		f := made(t, l)
		for n, w := range done {
			f.Do(w)
			is(t, f, l, done[:n+1])
		}
		for n := len(done); n > 0; n-- {
			if e := f.Undo(); e != api.OK {
				t.Fatalf("Undo of %d: %d", n, e)
			}
			is(t, f, l, done[:n-1])
			if back := r.Intn(n); r.Intn(4) == 0 { // further, and forth again
				for range back {
					f.Undo()
				}
				is(t, f, l, done[:n-1-back])
				for _, w := range done[n-1-back : n-1] {
					f.Do(w)
				}
				is(t, f, l, done[:n-1])
			}
		}
		if e := f.Undo(); e != api.ErrNone {
			t.Errorf("Undo of nothing: %d", e)
		}
		is(t, f, l, nil)
	}
}

// P12.2, of writes of which the chapters promise nothing: all is as it was ahead of them, too.
func TestP12_2_AnyWritesThereAndBack(t *testing.T) {
	for _, l := range [][]api.Cell{nil, cells("a", 1, "b", "x")} {
		for _, w := range anyWrites() {
			f := made(t, l)
			f.Do(write(put("c", num(1))))
			f.Do(w)
			if f.Depth() != 2 {
				t.Errorf("%v isn't remembered", w)
			}
			if e := f.Undo(); e != api.OK {
				t.Errorf("Undo of %v: %d", w, e)
			}
			is(t, f, l, writes(put("c", num(1))))
			f.Undo()
			is(t, f, l, nil)
		}
	}
}

// P12.3: what stands at a key hangs on the writes of that key alone.
func TestP12_3_KeyByKey(t *testing.T) {
	r := rand.New(rand.NewSource(125))
	for range 300 {
		l := someCells(r, someKeys())
		done := someWrites(r, l, someKeys(), r.Intn(40))
		all := field.Fold(l, done)
		for _, x := range reaches() {
			want := field.Only(all, x)
			if got := field.Fold(field.Only(l, x), reach.Pick(x, done)); !slices.Equal(got, want) || !slices.Equal(want, handOnly(handCells(l, done), x)) {
				t.Fatalf("for %q: %s, want %s", x, tell(got), tell(want))
			}
		}
		// Key by key, and in another order of the keys' writes.
		f := made(t, l)
		for _, k := range someKeys() {
			for _, w := range done {
				if w.Op.Key == k {
					f.Do(w)
				}
			}
		}
		if !slices.Equal(f.Cells(), all) {
			t.Fatalf("key by key: %s, want %s", tell(f.Cells()), tell(all))
		}
	}
}
