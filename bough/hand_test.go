package bough_test

import (
	"fmt"
	"math"
	"reflect"
	"slices"
	"strconv"
	"strings"
	"testing"

	"spinney/api"
	"spinney/bough"
	"spinney/deed"
	"spinney/letter"
	"spinney/roll"
	"spinney/slate"
	"spinney/stamp"
	"spinney/trellis"
)

const least, greatest = math.MinInt, math.MaxInt

func num(n int) api.Value { return api.Value{Kind: api.Int, Num: n} }

func op(s string) api.Op {
	o, e := deed.Read(s)
	if e != api.OK {
		panic("no operation: " + s)
	}
	return o
}

// write is that of a text: an id, a blank, an operation's line.
func write(s string) api.Write {
	a, b, _ := strings.Cut(s, " ")
	id, e := stamp.Read(a)
	if e != api.OK {
		panic("no id: " + s)
	}
	return api.Write{Id: id, Op: op(b)}
}

func writes(l ...string) []api.Write {
	var all []api.Write
	for _, s := range l {
		all = append(all, write(s))
	}
	return all
}

func lines(at int, l ...string) []roll.Line {
	var all []roll.Line
	for i, s := range l {
		if s != "" {
			all = append(all, roll.Line{At: at + i, Write: write(s)})
		}
	}
	return all
}

func cells(l ...any) []api.Cell {
	var all []api.Cell
	for i := 0; i < len(l); i += 2 {
		all = append(all, api.Cell{Key: l[i].(string), Value: num(l[i+1].(int))})
	}
	return all
}

// tree is that of a text, its lines with a semicolon between.
func tree(s string) trellis.Tree {
	t, e := trellis.Read(strings.ReplaceAll(s, ";", "\n") + "\n")
	if e != api.OK {
		panic("no tree: " + s)
	}
	return t
}

// ours has the root 0, the hub 1, the device 2 under that, the hub 3 and the device 4 under that, the hub 5 under 1.
var oursText = "hub 0 a,b;device 1 a.x,b;hub 0 *;device 3 b;hub 1 a"

func ours() trellis.Tree { return tree(oursText) }

func opened(t *testing.T, n int, s *slate.Slate) *bough.Node {
	t.Helper()
	x, e := bough.Open(ours(), n, 5, s)
	if e != api.OK {
		t.Fatalf("Open(%d): %d", n, e)
	}
	return x
}

// fresh is a node in its first life, and its slate.
func fresh(t *testing.T, n int) (*bough.Node, *slate.Slate) {
	t.Helper()
	s := slate.New()
	return opened(t, n, s), s
}

// alike compares things whole, but that lists which are nil and which are empty are the same.
func alike(a, b any) bool { return tell(a) == tell(b) }

func tell(x any) string { return tellValue(reflect.ValueOf(x)) }

func tellValue(v reflect.Value) string {
	switch v.Kind() {
	case reflect.Struct:
		var l []string
		for i := range v.NumField() {
			l = append(l, v.Type().Field(i).Name+":"+tellValue(v.Field(i)))
		}
		return "{" + strings.Join(l, " ") + "}"
	case reflect.Slice, reflect.Array:
		var l []string
		for i := range v.Len() {
			l = append(l, tellValue(v.Index(i)))
		}
		return "[" + strings.Join(l, " ") + "]"
	case reflect.String:
		return strconv.Quote(v.String())
	}
	return fmt.Sprint(v)
}

// hears looks at what a letter lets a node tell.
func hears(t *testing.T, n *bough.Node, l letter.Letter, want ...letter.Letter) {
	t.Helper()
	if !letter.Good(l) {
		t.Fatalf("not good: %v", l)
	}
	got := n.Hear(l)
	if !alike(got, want) {
		t.Fatalf("it tells %s, want %s", tell(got), tell(want))
	}
	for _, x := range got {
		if !letter.Good(x) {
			t.Fatalf("it tells what isn't good: %s", tell(x))
		}
	}
}

// ticks looks at what a tick lets a node tell.
func ticks(t *testing.T, n *bough.Node, want ...letter.Letter) {
	t.Helper()
	if got := n.Tick(); !alike(got, want) {
		t.Fatalf("it tells %s, want %s", tell(got), tell(want))
	}
}

// does does a client's Write.
func does(t *testing.T, n *bough.Node, line, id string) {
	t.Helper()
	got, e := n.Write(op(line))
	if e != api.OK || stamp.Text(got) != id {
		t.Fatalf("Write of %s: %v, %d", line, got, e)
	}
}

func reads(t *testing.T, n *bough.Node, key string, want api.Value) {
	t.Helper()
	if v, e := n.Read(key); e != api.OK || v != want {
		t.Fatalf("Read(%s): %v, %d, want %v", key, v, e, want)
	}
}

// Letters between the nodes of ours, in their first lives.
func hello(from, to, turn, prefix int, r ...string) letter.Letter {
	return letter.Letter{Kind: letter.Hello, From: from, To: to, Life: 1, Turn: turn, Prefix: prefix, Reach: r}
}

func offer(from, to, turn, prefix, low, first, stamp int, l ...string) letter.Letter {
	return letter.Letter{Kind: letter.Offer, From: from, To: to, Life: 1, Turn: turn, Prefix: prefix, Low: low, First: first, Stamp: stamp, Writes: writes(l...)}
}

func update(from, to, turn, stamp, taken, start, end int, l []roll.Line, tail ...string) letter.Letter {
	return letter.Letter{Kind: letter.Update, From: from, To: to, Life: 1, Turn: turn, Stamp: stamp, Taken: taken, Start: start, End: end, Lines: l, Writes: writes(tail...)}
}

func snap(l letter.Letter, c []api.Cell, lasts roll.Lasts) letter.Letter {
	l.Snap, l.Cells, l.Lasts = true, c, lasts
	return l
}

func reset(from, to, turn int) letter.Letter {
	return letter.Letter{Kind: letter.Reset, From: from, To: to, Life: 1, Turn: turn}
}

// is looks at a part of a report.
func is(t *testing.T, n *bough.Node, base, end, low int, queue, tail, known string, c []api.Cell) {
	t.Helper()
	r := n.Report()
	ids := func(l []api.Write) string {
		var all []string
		for _, w := range l {
			all = append(all, stamp.Text(w.Id))
		}
		return strings.Join(all, " ")
	}
	if r.Base != base || r.End != end || r.Low != low || ids(r.Queue) != queue || ids(r.Tail) != tail || ids(r.Known) != known || !slices.Equal(r.Cells, c) {
		t.Fatalf("it is %s", tell(r))
	}
}
