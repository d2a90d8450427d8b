package field_test

import (
	"cmp"
	"fmt"
	"math"
	"math/rand"
	"slices"
	"strings"
	"testing"

	"spinney/api"
	"spinney/field"
)

// What stands here does writes by hand, as the chapters' words have it: it keeps what was there to begin with and the writes, and goes through them for each answer.

const least, greatest = math.MinInt, math.MaxInt

func num(n int) api.Value     { return api.Value{Kind: api.Int, Num: n} }
func text(s string) api.Value { return api.Value{Kind: api.Text, Text: s} }

func put(key string, v api.Value) api.Op    { return api.Op{Kind: api.Put, Key: key, A: v} }
func del(key string) api.Op                 { return api.Op{Kind: api.Del, Key: key} }
func add(key string, n int) api.Op          { return api.Op{Kind: api.Add, Key: key, A: num(n)} }
func cas(key string, a, b api.Value) api.Op { return api.Op{Kind: api.Cas, Key: key, A: a, B: b} }

// writes of operations: of some device, one behind the other.
func writes(ops ...api.Op) []api.Write {
	var l []api.Write
	for i, o := range ops {
		l = append(l, api.Write{Id: api.Id{Dev: 1 + i%11, Seq: 1 + i%40}, Op: o})
	}
	return l
}

func write(o api.Op) api.Write { return writes(o)[0] }

// cells: keys and values, in turns.
func cells(parts ...any) []api.Cell {
	var l []api.Cell
	for i := 0; i < len(parts); i += 2 {
		c := api.Cell{Key: parts[i].(string)}
		switch v := parts[i+1].(type) {
		case int:
			c.Value = num(v)
		case string:
			c.Value = text(v)
		case api.Value:
			c.Value = v
		}
		l = append(l, c)
	}
	return l
}

// handDo is what an operation leaves of a value, and its error.
func handDo(o api.Op, v api.Value) (api.Value, api.Errno) {
	switch {
	case o.Kind == api.Put:
		return o.A, api.OK
	case o.Kind == api.Del && v.Kind == api.None:
		return v, api.ErrNone
	case o.Kind == api.Del:
		return api.Value{}, api.OK
	case o.Kind == api.Add && v.Kind != api.Int:
		return v, api.ErrKind
	case o.Kind == api.Add && (o.A.Num > 0 && v.Num > greatest-o.A.Num || o.A.Num < 0 && v.Num < least-o.A.Num):
		return v, api.ErrOver
	case o.Kind == api.Add:
		return num(v.Num + o.A.Num), api.OK
	case v != o.A:
		return v, api.ErrCase
	}
	return o.B, api.OK
}

// handAt is what stands at a key behind writes, and the error of the last one, if that is of the key.
func handAt(l []api.Cell, done []api.Write, key string) (v api.Value, e api.Errno) {
	for _, c := range l {
		if c.Key == key {
			v = c.Value
		}
	}
	for _, w := range done {
		if w.Op.Key == key {
			v, e = handDo(w.Op, v)
		}
	}
	return v, e
}

// handCells are the cells behind writes.
func handCells(l []api.Cell, done []api.Write) []api.Cell {
	var keys []string
	for _, c := range l {
		keys = append(keys, c.Key)
	}
	for _, w := range done {
		keys = append(keys, w.Op.Key)
	}
	slices.SortFunc(keys, cmp.Compare[string])
	var all []api.Cell
	for _, k := range slices.Compact(keys) {
		if v, _ := handAt(l, done, k); v.Kind != api.None {
			all = append(all, api.Cell{Key: k, Value: v})
		}
	}
	return all
}

// tell tells cells.
func tell(l []api.Cell) string {
	s := fmt.Sprintf("%v", l)
	return s[:min(len(s), 300)]
}

func made(t *testing.T, l []api.Cell) *field.Field {
	t.Helper()
	f, e := field.New(l)
	if e != api.OK || f == nil {
		t.Fatalf("New of %s: %d", tell(l), e)
	}
	return f
}

// is fails, if a field isn't that of cells behind writes, of which it remembers all.
func is(t *testing.T, f *field.Field, l []api.Cell, done []api.Write) {
	t.Helper()
	if want := handCells(l, done); !slices.Equal(f.Cells(), want) || f.Depth() != len(done) {
		t.Fatalf("%s, depth %d; want %s, %d", tell(f.Cells()), f.Depth(), tell(want), len(done))
	}
	for _, k := range append(someKeys(), "", "A", "k k", strings.Repeat("z", 50)) {
		if want, _ := handAt(l, done, k); f.At(k) != want {
			t.Fatalf("at %q: %v, want %v", k, f.At(k), want)
		}
	}
}

// someKeys: some of them the beginnings of others.
func someKeys() []string {
	return []string{"a", "a.1", "a.10", "a.2", "aa", "b", "b-", "0", "-", ".", "zz", strings.Repeat("k", api.MaxKey), strings.Repeat("k", api.MaxKey-1)}
}

func someValues() []api.Value {
	return []api.Value{num(0), num(1), num(-1), num(5), num(greatest), num(least), text(""), text("a"), text("5"), text("\x00\xff"), text(strings.Repeat("t", api.MaxText))}
}

// pick is one of a list, by chance.
func pick[T any](r *rand.Rand, l []T) T { return l[r.Intn(len(l))] }

// someOp is one by chance, at one of keys: some fail, some don't.
func someOp(r *rand.Rand, keys []string, at func(key string) api.Value) api.Op {
	key := pick(r, keys)
	switch r.Intn(8) {
	case 0, 1:
		return put(key, pick(r, someValues()))
	case 2:
		return put(key, at(key)) // what stands there already
	case 3:
		return del(key)
	case 4:
		return cas(key, at(key), pick(r, append(someValues(), api.Value{})))
	case 5:
		return cas(key, pick(r, append(someValues(), api.Value{})), pick(r, someValues()))
	}
	return add(key, pick(r, []int{0, 1, -1, 7, greatest, least}))
}

// someWrites: so many, one upon what the others left.
func someWrites(r *rand.Rand, l []api.Cell, keys []string, n int) []api.Write {
	var done []api.Write
	for len(done) < n {
		o := someOp(r, keys, func(key string) api.Value {
			v, _ := handAt(l, done, key)
			return v
		})
		if o.Kind != api.Put || o.A.Kind != api.None {
			done = append(done, api.Write{Id: api.Id{Dev: 1 + r.Intn(11), Seq: 1 + r.Intn(40)}, Op: o})
		}
	}
	return done
}

// someCells: good ones, of some of the keys.
func someCells(r *rand.Rand, keys []string) []api.Cell {
	var l []api.Cell
	for _, k := range slices.Sorted(slices.Values(keys)) {
		if r.Intn(2) == 0 {
			l = append(l, api.Cell{Key: k, Value: pick(r, someValues())})
		}
	}
	return l
}
