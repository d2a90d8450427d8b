package queue_test

import (
	"math"
	"math/rand"
	"slices"
	"strconv"
	"strings"
	"testing"

	"spinney/api"
	"spinney/queue"
	"spinney/roll"
	"spinney/stamp"
)

const least, greatest = math.MinInt, math.MaxInt

// id is that of a text, of numbers that can't be, too.
func id(s string) api.Id {
	dev, seq, _ := strings.Cut(s, "/")
	d, _ := strconv.Atoi(dev)
	n, _ := strconv.Atoi(seq)
	return api.Id{Dev: d, Seq: n}
}

// write is one of an id; of another id it is another operation.
func write(s string) api.Write {
	x := id(s)
	return api.Write{Id: x, Op: []api.Op{
		{Kind: api.Put, Key: "a." + strconv.Itoa(x.Seq), A: api.Value{Kind: api.Text, Text: "t" + s}},
		{Kind: api.Del, Key: "b"},
		{Kind: api.Cas, Key: "c", A: api.Value{Kind: api.Text, Text: "old" + s}, B: api.Value{Kind: api.Int, Num: x.Dev}},
	}[(x.Dev+x.Seq)%3]}
}

func list(s string) []api.Write {
	var l []api.Write
	for _, f := range strings.Fields(s) {
		l = append(l, write(f))
	}
	return l
}

// lasts are those of ids, one a device.
func lasts(s string) roll.Lasts {
	var l roll.Lasts
	for _, f := range strings.Fields(s) {
		l[id(f).Dev] = id(f).Seq
	}
	return l
}

// made is a queue of a room, that has these.
func made(t *testing.T, room int, s string) *queue.Queue {
	t.Helper()
	q, e := queue.New(room)
	if e != api.OK {
		t.Fatalf("New(%d): %d", room, e)
	}
	for _, w := range list(s) {
		l := roll.Lasts{}
		l[w.Id.Dev] = w.Id.Seq - 1
		if e := q.Take(l, w); e != api.OK {
			t.Fatalf("Take of %v: %d", w.Id, e)
		}
	}
	return q
}

// has looks at all that a queue tells of its writes.
func has(t *testing.T, q *queue.Queue, s string) {
	t.Helper()
	want := list(s)
	if got := q.List(); !slices.Equal(got, want) || q.Len() != len(want) {
		t.Fatalf("it has %v, %d of them, want %s", stamp.Ids(got), q.Len(), s)
	}
	if got := q.Lasts(roll.Lasts{}); got != handLasts(roll.Lasts{}, want) {
		t.Fatalf("Lasts of %s: %v", s, got)
	}
}

func handLasts(l roll.Lasts, w []api.Write) roll.Lasts {
	for _, x := range w {
		l[x.Id.Dev] = max(l[x.Id.Dev], x.Id.Seq)
	}
	return l
}

func TestP14_1_Example(t *testing.T) {
	q := made(t, 8, "")
	for _, c := range []struct {
		id   string
		want api.Errno
	}{{"1/1", api.OK}, {"1/3", api.ErrGap}, {"1/1", api.ErrTwice}} {
		if e := q.Take(roll.Lasts{}, write(c.id)); e != c.want {
			t.Errorf("Take of %s: %d, want %d", c.id, e, c.want)
		}
		has(t, q, "1/1")
	}
	if n := q.Settle(lasts("1/1")); n != 1 {
		t.Errorf("Settle: %d", n)
	}
	has(t, q, "")
}

func TestP14_1_New(t *testing.T) {
	for _, room := range []int{1, 2, 8, 40, 399, 400} {
		has(t, made(t, room, ""), "")
	}
	for _, room := range []int{0, 401, -1, least, greatest, 1 << 32, 1<<32 + 1} {
		if q, e := queue.New(room); e != api.ErrRange || q != nil {
			t.Errorf("New(%d): %d", room, e)
		}
	}
}

// What may be taken, beside lasts and what the queue has.
func TestP14_1_Take(t *testing.T) {
	for _, c := range []struct {
		has, lasts, id string
		want           api.Errno
	}{
		{"", "", "1/1", api.OK}, {"", "", "11/1", api.OK}, {"", "", "1/2", api.ErrGap}, {"", "", "1/40", api.ErrGap}, {"", "1/1", "1/1", api.ErrTwice}, {"", "1/1", "1/2", api.OK}, {"", "1/1", "1/3", api.ErrGap}, {"", "1/39", "1/40", api.OK}, {"", "1/40", "1/40", api.ErrTwice}, {"", "2/5", "1/1", api.OK}, {"", "2/5", "1/2", api.ErrGap},
		{"1/1", "", "1/1", api.ErrTwice}, {"1/1", "", "1/2", api.OK}, {"1/1", "", "1/3", api.ErrGap}, {"1/1", "1/1", "1/2", api.OK}, {"1/1", "1/5", "1/2", api.ErrTwice}, {"1/1", "1/5", "1/6", api.OK}, {"1/1", "1/5", "1/7", api.ErrGap}, {"1/1 1/2", "1/1", "1/2", api.ErrTwice}, {"1/1 1/2", "1/1", "1/3", api.OK}, {"1/3 1/4", "", "1/1", api.ErrTwice}, {"1/3 1/4", "", "1/4", api.ErrTwice}, {"1/3 1/4", "", "1/5", api.OK}, {"1/3 1/4", "1/2 2/1", "2/2", api.OK}, {"1/3 1/4", "", "2/1", api.OK}, {"1/3 2/9 1/4", "", "2/10", api.OK}, {"1/3 2/9 1/4", "", "2/9", api.ErrTwice}, {"1/3 2/9 1/4", "", "2/11", api.ErrGap},
	} {
		q := made(t, 8, c.has)
		if e := q.Take(lasts(c.lasts), write(c.id)); e != c.want {
			t.Errorf("with %s, beside %s, Take of %s: %d, want %d", c.has, c.lasts, c.id, e, c.want)
		}
		if c.want == api.OK {
			c.has += " " + c.id
		}
		has(t, q, c.has)
	}
}

// A room of each size is taken up to its last place; what is old, or a gap, is told ahead of the lack of room.
func TestP14_1_Room(t *testing.T) {
	for _, room := range []int{1, 2, 8, 40, 41, 399, 400} {
		q := made(t, room, "")
		var all []string
		for i := range room {
			s := strconv.Itoa(1+i/40) + "/" + strconv.Itoa(1+i%40)
			if e := q.Take(roll.Lasts{}, write(s)); e != api.OK {
				t.Fatalf("room %d: Take of %s: %d", room, s, e)
			}
			all = append(all, s)
		}
		next := strconv.Itoa(1+room/40) + "/" + strconv.Itoa(1+room%40)
		for s, want := range map[string]api.Errno{next: api.ErrFull, "11/1": api.ErrFull, "11/2": api.ErrGap, "1/1": api.ErrTwice, all[room-1]: api.ErrTwice} {
			if e := q.Take(roll.Lasts{}, write(s)); e != want {
				t.Errorf("room %d, full: Take of %s: %d, want %d", room, s, e, want)
			}
			has(t, q, strings.Join(all, " "))
		}
		if n := q.Settle(lasts("1/1")); n != 1 {
			t.Errorf("room %d: Settle: %d", room, n)
		}
		if e := q.Take(lasts("1/1"), write(next)); e != api.OK {
			t.Errorf("room %d: Take of %s where one was settled: %d", room, next, e)
		}
		again := map[bool]string{false: "11/1", true: "11/2"}[next == "11/1"]
		if e := q.Take(lasts("1/1"), write(again)); e != api.ErrFull {
			t.Errorf("room %d, full again: %d", room, e)
		}
		has(t, q, strings.Join(append(all[1:], next), " "))
	}
}

func TestP14_1_Settle(t *testing.T) {
	for _, c := range []struct {
		has, lasts, left string
	}{
		{"", "", ""}, {"", "1/40 11/40", ""}, {"1/1", "", "1/1"}, {"1/1", "2/40", "1/1"}, {"1/1", "1/1", ""}, {"1/1", "1/9", ""}, {"1/1 1/2 1/3", "1/2", "1/3"}, {"1/1 1/2 1/3", "1/3", ""}, {"1/1 1/2 1/3", "", "1/1 1/2 1/3"}, {"1/4 2/1 1/5 2/2 11/40", "1/4", "2/1 1/5 2/2 11/40"}, {"1/4 2/1 1/5 2/2 11/40", "1/3 2/2", "1/4 1/5 11/40"}, {"1/4 2/1 1/5 2/2 11/40", "2/1 11/40", "1/4 1/5 2/2"}, {"1/4 2/1 1/5 2/2 11/40", "1/40 2/40 11/40", ""}, {"1/4 2/1 1/5 2/2 11/40", "1/3 3/9 11/39", "1/4 2/1 1/5 2/2 11/40"},
	} {
		q := made(t, 8, c.has)
		if n := q.Settle(lasts(c.lasts)); n != len(list(c.has))-len(list(c.left)) {
			t.Errorf("with %s, Settle of %s: %d", c.has, c.lasts, n)
		}
		has(t, q, c.left)
		if n := q.Settle(lasts(c.lasts)); n != 0 {
			t.Errorf("with %s, Settle of %s again: %d", c.has, c.lasts, n)
		}
		has(t, q, c.left)
	}
}

func TestP14_1_Lasts(t *testing.T) {
	for _, c := range []struct{ has, lasts, want string }{
		{"", "", ""}, {"", "1/4 11/40", "1/4 11/40"}, {"1/1 1/2", "", "1/2"}, {"1/1 1/2", "1/1", "1/2"}, {"1/1 1/2", "1/2", "1/2"}, {"1/1 1/2", "1/5", "1/5"}, {"1/1 2/3 1/2", "2/9 3/1", "1/2 2/9 3/1"}, {"11/40", "", "11/40"},
	} {
		q := made(t, 8, c.has)
		if got := q.Lasts(lasts(c.lasts)); got != lasts(c.want) {
			t.Errorf("with %s, Lasts of %s: %v, want %s", c.has, c.lasts, got, c.want)
		}
		has(t, q, c.has)
	}
}

func TestP14_1_Fill(t *testing.T) {
	for _, c := range []struct {
		room int
		l    string
		want api.Errno
	}{
		{1, "", api.OK}, {1, "1/1", api.OK}, {1, "11/40", api.OK}, {1, "1/1 1/2", api.ErrFull}, {1, "1/1 1/3", api.ErrFull}, {2, "1/1 1/3", api.ErrGap}, {2, "1/1 1/1", api.ErrGap}, {2, "1/2 1/1", api.ErrGap}, {2, "1/7 2/3", api.OK}, {4, "1/7 2/3 1/8 2/4", api.OK}, {4, "1/7 2/3 1/8 2/5", api.ErrGap}, {4, "1/7 2/3 1/9 2/4", api.ErrGap}, {3, "1/7 2/3 1/9 2/4", api.ErrFull}, {3, "1/7 2/3 1/8 2/4", api.ErrFull},
	} {
		for _, was := range []string{"", "3/1"} {
			q := made(t, c.room, was)
			if e := q.Fill(list(c.l)); e != c.want {
				t.Errorf("room %d: Fill of %s: %d, want %d", c.room, c.l, e, c.want)
			}
			if c.want == api.OK {
				has(t, q, c.l)
			} else {
				has(t, q, was)
			}
		}
	}
}

// As many as the room, and one more; what it has thereafter is taken behind, and settled.
func TestP14_1_FillAndThen(t *testing.T) {
	var s []string
	for i := range 401 {
		s = append(s, strconv.Itoa(1+i/40)+"/"+strconv.Itoa(1+i%40))
	}
	q := made(t, 400, "")
	if e := q.Fill(list(strings.Join(s, " "))); e != api.ErrFull {
		t.Errorf("Fill of 401: %d", e)
	}
	has(t, q, "")
	if e := q.Fill(list(strings.Join(s[:400], " "))); e != api.OK {
		t.Errorf("Fill of 400: %d", e)
	}
	has(t, q, strings.Join(s[:400], " "))
	q = made(t, 4, "9/9")
	q.Fill(list("1/3 2/5"))
	for _, c := range []struct {
		id   string
		want api.Errno
	}{{"1/3", api.ErrTwice}, {"1/5", api.ErrGap}, {"9/10", api.ErrGap}, {"1/4", api.OK}, {"2/6", api.OK}, {"1/5", api.ErrFull}} {
		if e := q.Take(roll.Lasts{}, write(c.id)); e != c.want {
			t.Errorf("behind Fill, Take of %s: %d, want %d", c.id, e, c.want)
		}
	}
	has(t, q, "1/3 2/5 1/4 2/6")
	if n := q.Settle(lasts("1/3 2/9")); n != 3 {
		t.Errorf("behind Fill, Settle: %d", n)
	}
	has(t, q, "1/4")
	if e := q.Fill(nil); e != api.OK {
		t.Errorf("Fill of none: %d", e)
	}
	has(t, q, "")
}

// P14.2: behind many calls by chance, beside a model by hand: tight, at most as many as the room, in the order in which they were taken; settled, none is old.
func TestP14_2_ByChance(t *testing.T) {
	r := rand.New(rand.NewSource(14))
	for range 300 {
		room := []int{1, 2, 5, 8, 40, 400}[r.Intn(6)]
		q := made(t, room, "")
		var model []api.Write
		known := roll.Lasts{}
		for range 200 {
			dev := 1 + r.Intn(4)
			switch r.Intn(8) {
			case 0: // lasts rise, and it is settled by them
				top := handLasts(known, model)
				known[dev] = min(top[dev], known[dev]+r.Intn(4))
				was := len(model)
				model = slices.DeleteFunc(model, func(w api.Write) bool { return w.Id.Seq <= known[w.Id.Dev] })
				if n := q.Settle(known); n != was-len(model) {
					t.Fatalf("Settle: %d, want %d", n, was-len(model))
				}
			case 1:
				if r.Intn(10) == 0 {
					model = slices.Clone(model[r.Intn(len(model)+1):])
					if e := q.Fill(model); e != api.OK {
						t.Fatalf("Fill: %d", e)
					}
				}
			default:
				w := write(strconv.Itoa(dev) + "/" + strconv.Itoa(min(40, max(1, handLasts(known, model)[dev]-1+r.Intn(4)))))
				top := handLasts(known, model)[dev]
				want := api.OK
				switch {
				case w.Id.Seq <= top:
					want = api.ErrTwice
				case w.Id.Seq > top+1:
					want = api.ErrGap
				case len(model) == room:
					want = api.ErrFull
				}
				if e := q.Take(known, w); e != want {
					t.Fatalf("Take of %v beside %v: %d, want %d", w.Id, known, e, want)
				}
				if want == api.OK {
					model = append(model, w)
				}
			}
			got := q.List()
			if !slices.Equal(got, model) || q.Len() != len(model) || q.Lasts(known) != handLasts(known, model) || !stamp.Tight(got) || len(got) > room {
				t.Fatalf("it has %v, want %v", stamp.Ids(got), stamp.Ids(model))
			}
		}
	}
}
