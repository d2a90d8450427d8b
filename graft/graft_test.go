package graft_test

import (
	"math"
	"math/rand"
	"reflect"
	"slices"
	"strconv"
	"strings"
	"testing"

	"spinney/api"
	"spinney/graft"
	"spinney/letter"
	"spinney/stamp"
)

const least, greatest = math.MinInt, math.MaxInt

var ab = api.Reach{"a", "b"}

// list is one of writes of ids, with a blank between.
func list(s string) []api.Write {
	var l []api.Write
	for _, f := range strings.Fields(s) {
		id, e := stamp.Read(f)
		if e != api.OK {
			panic(f)
		}
		l = append(l, api.Write{Id: id, Op: api.Op{Kind: api.Put, Key: "a." + strconv.Itoa(id.Seq), A: api.Value{Kind: api.Text, Text: "t" + f}}})
	}
	return l
}

// same tells whether two letters are; lists that are nil and empty ones are.
func same(a, b letter.Letter) bool {
	x, y := a, b
	x.Reach, x.Writes, y.Reach, y.Writes = nil, nil, nil, nil
	return reflect.DeepEqual(x, y) && slices.Equal(a.Reach, b.Reach) && slices.Equal(a.Writes, b.Writes)
}

func hello(turn, prefix int) letter.Letter {
	return letter.Letter{Kind: letter.Hello, From: 3, To: 1, Life: 7, Turn: turn, Prefix: prefix, Reach: ab}
}

func offer(turn, prefix, low, first, stamp int, l string) letter.Letter {
	return letter.Letter{Kind: letter.Offer, From: 3, To: 1, Life: 7, Turn: turn, Prefix: prefix, Low: low, First: first, Stamp: stamp, Writes: list(l)}
}

func update(turn, stamp, taken int) letter.Letter {
	return letter.Letter{Kind: letter.Update, From: 1, To: 3, Life: 7, Turn: turn, Stamp: stamp, Taken: taken}
}

func reset(turn int) letter.Letter {
	return letter.Letter{Kind: letter.Reset, From: 1, To: 3, Life: 7, Turn: turn}
}

// made is node 3's, under node 1, in the life 7.
func made(t *testing.T) *graft.Graft {
	t.Helper()
	g, e := graft.New(3, 1, 7)
	if e != api.OK {
		t.Fatalf("New: %d", e)
	}
	return g
}

// is looks at what a graft tells of itself.
func is(t *testing.T, g *graft.Graft, joined bool, turn, left int) {
	t.Helper()
	if g.Joined() != joined || g.Turn() != turn || g.Left() != left {
		t.Fatalf("joined %v, turn %d, left %d, want %v, %d, %d", g.Joined(), g.Turn(), g.Left(), joined, turn, left)
	}
}

// tells looks at what it tells of a queue, twice.
func tells(t *testing.T, g *graft.Graft, queue string, want letter.Letter) {
	t.Helper()
	for range 2 {
		got := g.Tell(want.Prefix, want.Low, ab, list(queue))
		if !same(got, want) || !letter.Good(got) {
			t.Fatalf("it tells %v, want %v", got, want)
		}
	}
}

func hears(t *testing.T, g *graft.Graft, l letter.Letter, want graft.Word) {
	t.Helper()
	if got := g.Hear(l); got != want {
		t.Fatalf("%v means %d, want %d", l, got, want)
	}
}

func TestP19_1_Example(t *testing.T) {
	g, e := graft.New(3, 1, 1)
	if e != api.OK {
		t.Fatalf("New: %d", e)
	}
	one := func(l letter.Letter) letter.Letter {
		l.Life = 1
		return l
	}
	tells(t, g, "", one(hello(1, 0)))
	hears(t, g, one(update(1, 5, 0)), graft.News)
	tells(t, g, "", one(offer(1, 0, 0, 1, 5, "")))
	hears(t, g, one(reset(1)), graft.Again)
	tells(t, g, "", one(hello(2, 0)))
}

func TestP19_1_Words(t *testing.T) {
	if graft.Nothing != 0 || graft.News != 1 || graft.Again != 2 {
		t.Errorf("words: %d, %d, %d", graft.Nothing, graft.News, graft.Again)
	}
}

func TestP19_1_New(t *testing.T) {
	for _, c := range []struct {
		node, parent, life int
		want               api.Errno
	}{
		{3, 1, 1, api.OK}, {3, 1, 1 << 30, api.OK}, {0, 11, 5, api.OK}, {11, 0, 5, api.OK},
		{-1, 1, 1, api.ErrRange}, {12, 1, 1, api.ErrRange}, {3, -1, 1, api.ErrRange}, {3, 12, 1, api.ErrRange}, {3, 3, 1, api.ErrRange}, {3, 1, 0, api.ErrRange}, {3, 1, -1, api.ErrRange}, {3, 1, 1<<30 + 1, api.ErrRange}, {least, 1, 1, api.ErrRange}, {3, greatest, 1, api.ErrRange}, {3, 1, greatest, api.ErrRange}, {3, 1, least, api.ErrRange},
	} {
		g, e := graft.New(c.node, c.parent, c.life)
		if e != c.want || (g == nil) != (e != api.OK) {
			t.Errorf("New(%d, %d, %d): %d, want %d", c.node, c.parent, c.life, e, c.want)
		}
		if e != api.OK {
			continue
		}
		is(t, g, false, 1, 0)
		if l := g.Tell(0, 0, nil, nil); !same(l, letter.Letter{Kind: letter.Hello, From: c.node, To: c.parent, Life: c.life, Turn: 1}) {
			t.Errorf("it tells %v", l)
		}
	}
}

// A queue that grows and settles; what is taken, and not offered again.
func TestP19_1_TellAndHear(t *testing.T) {
	g := made(t)
	tells(t, g, "3/1 3/2", hello(1, 9)) // a Hello puts nothing on the line, and tells no low
	if l := g.Tell(4, 3, ab, list("3/1")); !same(l, hello(1, 4)) {
		t.Errorf("a Hello: %v", l)
	}
	is(t, g, false, 1, 0)
	hears(t, g, update(1, 2048, 5), graft.News) // more than are on the line: all, none
	is(t, g, true, 1, 0)
	tells(t, g, "", offer(1, 4, 2, 1, 2048, ""))
	is(t, g, true, 1, 0)
	tells(t, g, "3/1 4/1", offer(1, 4, 2, 1, 2048, "3/1 4/1"))
	is(t, g, true, 1, 2)
	tells(t, g, "3/1 4/1 3/2", offer(1, 4, 4, 1, 2048, "3/1 4/1 3/2"))
	is(t, g, true, 1, 3)
	hears(t, g, update(1, 2049, 1), graft.News)
	is(t, g, true, 1, 2)
	tells(t, g, "3/1 4/1 3/2", offer(1, 5, 0, 2, 2049, "4/1 3/2"))
	// Another order in the queue, and one that is gone: the line's order counts.
	tells(t, g, "3/2 5/1 4/1", offer(1, 5, 0, 2, 2049, "4/1 3/2 5/1"))
	is(t, g, true, 1, 3)
	tells(t, g, "5/1 3/2", offer(1, 5, 0, 2, 2049, "3/2 5/1"))
	is(t, g, true, 1, 3)
	hears(t, g, update(1, 2050, 1), graft.News) // just as many
	hears(t, g, update(1, 2051, 0), graft.News) // fewer
	is(t, g, true, 1, 3)
	tells(t, g, "5/1", offer(1, 6, 6, 2, 2051, "5/1"))
	hears(t, g, update(1, 2060, 4), graft.News)
	is(t, g, true, 1, 0)
	tells(t, g, "5/1 3/1", offer(1, 6, 6, 5, 2060, "")) // they all were taken
	tells(t, g, "5/1 3/1 6/1", offer(1, 6, 6, 5, 2060, "6/1"))
	hears(t, g, update(1, 2061, 99), graft.News) // more than are on it: all
	is(t, g, true, 1, 0)
	tells(t, g, "6/1 7/1", offer(1, 6, 6, 6, 2061, "7/1"))
	hears(t, g, reset(1), graft.Again)
	is(t, g, false, 2, 0)
	tells(t, g, "6/1 7/1", hello(2, 6))
	hears(t, g, update(2, 1, 3), graft.News)
	tells(t, g, "6/1 7/1", offer(2, 6, 6, 1, 1, "6/1 7/1"))
}

// Of elder Updates, of the same stamp, and of letters that aren't this session's, nothing counts.
func TestP19_3_WhatMeansNothing(t *testing.T) {
	for _, joined := range []bool{false, true} {
		g := made(t)
		g.Move(1)
		want := hello(2, 0)
		if joined {
			hears(t, g, update(2, 100, 0), graft.News)
			g.Tell(0, 0, ab, list("3/1 3/2"))
			want = offer(2, 0, 0, 1, 100, "3/1 3/2")
		}
		left := g.Left()
		for name, change := range map[string]func(l *letter.Letter){
			"another parent": func(l *letter.Letter) { l.From = 2 }, "the node itself": func(l *letter.Letter) { l.From = 3 }, "to another node": func(l *letter.Letter) { l.To = 4 }, "to the parent": func(l *letter.Letter) { l.To = 1 },
			"an elder life": func(l *letter.Letter) { l.Life = 6 }, "a later life": func(l *letter.Letter) { l.Life = 8 }, "no life": func(l *letter.Letter) { l.Life = 0 }, "an elder session": func(l *letter.Letter) { l.Turn = 1 }, "a later session": func(l *letter.Letter) { l.Turn = 3 }, "no turn": func(l *letter.Letter) { l.Turn = 0 },
			"a Hello": func(l *letter.Letter) { l.Kind = letter.Hello }, "an Offer": func(l *letter.Letter) { l.Kind = letter.Offer }, "no kind": func(l *letter.Letter) { l.Kind = 0 }, "another kind": func(l *letter.Letter) { l.Kind = 5 }, "a kind below 0": func(l *letter.Letter) { l.Kind = least },
		} {
			for _, l := range []letter.Letter{update(2, 200, 1), reset(2)} {
				change(&l)
				if w := g.Hear(l); w != graft.Nothing {
					t.Errorf("%s means %d", name, w)
				}
				is(t, g, joined, 2, left)
				tells(t, g, "3/1 3/2", want)
			}
		}
		own := map[bool]int{true: 100}[joined]
		for _, n := range []int{own, own - 1, 0, -1, least} {
			hears(t, g, update(2, n, 2), graft.Nothing)
			is(t, g, joined, 2, left)
			tells(t, g, "3/1 3/2", want)
		}
	}
}

func TestP19_1_Move(t *testing.T) {
	g := made(t)
	hears(t, g, update(1, 5, 0), graft.News)
	g.Tell(0, 0, ab, list("3/1"))
	for _, n := range []int{3, -1, 12, least, greatest} {
		if e := g.Move(n); e != api.ErrRange {
			t.Errorf("Move(%d): %d", n, e)
		}
		is(t, g, true, 1, 1)
		tells(t, g, "3/1", offer(1, 0, 0, 1, 5, "3/1"))
	}
	for i, n := range []int{1, 1, 0, 11, 1} { // to the parent that it has, too
		if e := g.Move(n); e != api.OK {
			t.Errorf("Move(%d): %d", n, e)
		}
		is(t, g, false, 2+i, 0)
		want := hello(2+i, 3)
		want.To = n
		tells(t, g, "3/1", want)
		l := update(2+i, 9, 0)
		l.From = n
		if n != 1 {
			hears(t, g, update(2+i, 9, 0), graft.Nothing)
		}
		hears(t, g, l, graft.News)
		g.Tell(0, 0, ab, list("3/1"))
	}
}

// A turn of 2^20 stays.
func TestP19_1_TheLastTurn(t *testing.T) {
	g := made(t)
	for turn := 1; turn < 1<<20; turn++ {
		if turn%2 == 0 {
			g.Move(1)
		} else {
			g.Hear(reset(turn))
		}
	}
	for range 3 {
		is(t, g, false, 1<<20, 0)
		hears(t, g, update(1<<20, 5, 0), graft.News)
		tells(t, g, "3/1", offer(1<<20, 0, 0, 1, 5, "3/1"))
		hears(t, g, reset(1<<20), graft.Again)
		is(t, g, false, 1<<20, 0)
		tells(t, g, "3/1", hello(1<<20, 0))
		hears(t, g, update(1<<20, 6, 0), graft.News)
		g.Move(1)
	}
}

// P19.1: letters that aren't good do what the words say by what stands there.
func TestP19_1_AnyLetters(t *testing.T) {
	g := made(t)
	hears(t, g, update(1, 10, 0), graft.News)
	g.Tell(0, 0, ab, list("3/1 3/2"))
	l := update(1, 11, least)
	l.Start, l.End, l.Writes = 9, -1, []api.Write{{}}
	hears(t, g, l, graft.News)
	is(t, g, true, 1, 2)
	hears(t, g, update(1, 12, greatest), graft.News)
	is(t, g, true, 1, 0)
	l = reset(1)
	l.Stamp, l.Reach = -5, api.Reach{"b", "a"}
	hears(t, g, l, graft.Again)
	if x := g.Tell(-1, least, api.Reach{"b", "\xff"}, nil); !same(x, letter.Letter{Kind: letter.Hello, From: 3, To: 1, Life: 7, Turn: 2, Prefix: -1, Reach: api.Reach{"b", "\xff"}}) {
		t.Errorf("it tells %v", x)
	}
}

// hand is a graft by hand: the line whole, what is taken a number.
type hand struct {
	turn, stamp, taken int
	line               []api.Id
}

// P19.2, P19.3: queues and letters by chance, beside a graft by hand.
func TestP19_2_ByChance(t *testing.T) {
	r := rand.New(rand.NewSource(19))
	for range 200 {
		g, h := made(t), hand{turn: 1}
		var queue []api.Write
		next := 1
		for range 100 {
			switch r.Intn(6) {
			case 0:
				if next < 400 {
					queue = append(queue, list(strconv.Itoa(1+next/40)+"/"+strconv.Itoa(1+next%40))...)
					next++
				}
			case 1:
				queue = queue[min(len(queue), r.Intn(3)):]
			case 2:
				l := update(h.turn-r.Intn(2), h.stamp-1+r.Intn(4), r.Intn(len(h.line)+3))
				want := graft.Nothing
				if l.Turn == h.turn && l.Stamp > h.stamp {
					want, h.stamp, h.taken = graft.News, l.Stamp, max(h.taken, min(l.Taken, len(h.line)))
				}
				hears(t, g, l, want)
			case 3:
				if r.Intn(9) == 0 {
					l := reset(h.turn - r.Intn(2))
					want := graft.Nothing
					if l.Turn == h.turn {
						want, h = graft.Again, hand{turn: h.turn + 1}
					}
					hears(t, g, l, want)
				}
			default:
				prefix := r.Intn(4097)
				got := g.Tell(prefix, r.Intn(prefix+1), ab, queue)
				if !letter.Good(got) {
					t.Fatalf("%v isn't good", got)
				}
				told(t, got, &h, queue)
			}
			is(t, g, h.stamp != 0, h.turn, len(h.line)-h.taken)
		}
	}
}

// told looks at what was told of a queue.
func told(t *testing.T, got letter.Letter, h *hand, queue []api.Write) {
	t.Helper()
	if h.stamp == 0 {
		if !same(got, hello(h.turn, got.Prefix)) {
			t.Fatalf("it tells %v", got)
		}
		return
	}
	for _, w := range queue {
		if !slices.Contains(h.line, w.Id) {
			h.line = append(h.line, w.Id)
		}
	}
	want := offer(h.turn, got.Prefix, got.Low, h.taken+1, h.stamp, "")
	for _, id := range h.line[h.taken:] {
		if i := stamp.Find(queue, id); i >= 0 {
			want.Writes = append(want.Writes, queue[i])
		}
	}
	if !same(got, want) {
		t.Fatalf("it tells %v, want %v", got, want)
	}
	for _, w := range queue { // each is offered, or was taken
		if stamp.Find(got.Writes, w.Id) < 0 && !slices.Contains(h.line[:h.taken], w.Id) {
			t.Fatalf("%v is neither offered nor taken", w.Id)
		}
	}
}

// P19.2: as many writes as a letter may have, and the greatest numbers.
func TestP19_2_TheGreatestOffer(t *testing.T) {
	var ids []string
	for i := range 440 {
		ids = append(ids, strconv.Itoa(1+i/40)+"/"+strconv.Itoa(1+i%40))
	}
	all := strings.Join(ids, " ")
	g := made(t)
	hears(t, g, update(1, 1<<40, 0), graft.News)
	want := offer(1, 4096, 4096, 1, 1<<40, all)
	tells(t, g, all, want)
	is(t, g, true, 1, 440)
}
