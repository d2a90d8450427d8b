package roll_test

import (
	"bytes"
	"math"
	"slices"
	"strconv"
	"strings"
	"sync"
	"testing"

	"spinney/api"
	"spinney/pack"
	"spinney/roll"
)

const least, greatest = math.MinInt, math.MaxInt

// places: for lines.
const places = 4096

func num(n int) api.Value     { return api.Value{Kind: api.Int, Num: n} }
func text(s string) api.Value { return api.Value{Kind: api.Text, Text: s} }

func sized(n int) string { return strings.Repeat("z", n) }

// of: bytes out of numbers, and of texts.
func of(parts ...any) []byte {
	var b []byte
	for _, p := range parts {
		switch x := p.(type) {
		case int:
			b = append(b, byte(x))
		case string:
			b = append(b, x...)
		case []byte:
			b = append(b, x...)
		}
	}
	return b
}

// short tells bytes, of many the first ones.
func short[T []byte | string](b T) string {
	if len(b) > 60 {
		return strconv.Quote(string(b[:60])) + ".. of " + strconv.Itoa(len(b))
	}
	return strconv.Quote(string(b))
}

func put(dev, seq int, key string, v api.Value) api.Write {
	return api.Write{Id: api.Id{Dev: dev, Seq: seq}, Op: api.Op{Kind: api.Put, Key: key, A: v}}
}

func del(dev, seq int, key string) api.Write {
	return api.Write{Id: api.Id{Dev: dev, Seq: seq}, Op: api.Op{Kind: api.Del, Key: key}}
}

// reaches: good ones.
func reaches() []api.Reach {
	long := sized(api.MaxKey - 1)
	return []api.Reach{nil, {""}, {"a"}, {"a", "b"}, {"-", ".", "0", "9", "a", "z"}, {"a.x", "b", "n-1"}, {sized(api.MaxKey)}, {long + "a", long + "b", long + "c", long + "d", long + "e", long + "f"}, {"aa", "ab", "b"}}
}

// cellLists: good ones.
func cellLists() [][]api.Cell {
	var many []api.Cell
	for i := range 3000 {
		v := num(i - 1500)
		if i%3 == 0 {
			v = text(sized(i % (api.MaxText + 1)))
		}
		many = append(many, api.Cell{Key: string(of('a'+i/676, 'a'+i/26%26, 'a'+i%26)), Value: v})
	}
	return [][]api.Cell{
		nil, {{Key: "a", Value: num(1)}}, {{Key: "a", Value: num(0)}}, {{Key: "-", Value: num(least)}, {Key: "z", Value: num(greatest)}}, {{Key: "k", Value: num(-1)}, {Key: "k.1", Value: num(1 << 40)}},
		{{Key: "a", Value: text("")}}, {{Key: "a", Value: text("ab")}, {Key: "b", Value: num(7)}}, {{Key: sized(api.MaxKey), Value: text(sized(api.MaxText))}}, {{Key: "0", Value: text("\x00\xff")}, {Key: sized(api.MaxKey - 1), Value: text("\xff")}},
		many[:255], many[:256], many,
	}
}

// lastsAll: good ones.
func lastsAll() []roll.Lasts {
	l := []roll.Lasts{{}, {0, 40, 40, 40, 40, 40, 40, 40, 40, 40, 40, 40}, {0, 1, 2, 3, 4, 5, 6, 7, 8, 9, 10, 11}, {0, 39, 0, 40}, {11: 1}}
	for dev := 1; dev < api.MaxNodes; dev++ {
		var x roll.Lasts
		x[dev] = api.MaxSeq
		l = append(l, x)
	}
	return l
}

// lineLists: good ones.
func lineLists() [][]roll.Line {
	var all []roll.Line
	for i := range places {
		w := []api.Write{put(1+i%11, 1+i%40, "n.1", num(i*i*i)), del(1, 1, "k"), put(11, 40, sized(api.MaxKey), text(sized(i%41))),
			{Id: api.Id{Dev: 2, Seq: 3}, Op: api.Op{Kind: api.Add, Key: "-", A: num(least)}}, {Id: api.Id{Dev: 2, Seq: 3}, Op: api.Op{Kind: api.Cas, Key: ".", B: text("\xff")}}}[i%5]
		all = append(all, roll.Line{At: i, Write: w})
	}
	return [][]roll.Line{nil, all[:1], all[places-1:], {all[0], all[places-1]}, all[1:6], {all[254], all[255], all[256], all[257]}, {{At: 5, Write: del(1, 1, "k")}, {At: 9, Write: del(1, 1, "k")}}, all[:255], all[:256], all}
}

// taken: what is taken by one of the four calls, as it is told: its own bytes by hand, and its error.
type taken struct {
	told string
	e    api.Errno
}

// A kind of thing: how good ones are put, and how one is taken.
type kind struct {
	name string
	puts []func(b []byte) []byte
	take func(r *pack.Reader) taken
}

// kinds: all four, made once.
var kinds = sync.OnceValue(makeKinds)

func makeKinds() []kind {
	k := []kind{
		{name: "Reach", take: func(r *pack.Reader) taken { x, e := roll.TakeReach(r); return taken{string(handReach(x)), e} }},
		{name: "Cells", take: func(r *pack.Reader) taken { x, e := roll.TakeCells(r); return taken{string(handCells(x)), e} }},
		{name: "Lasts", take: func(r *pack.Reader) taken { x, e := roll.TakeLasts(r); return taken{string(handLasts(x)), e} }},
		{name: "Lines", take: func(r *pack.Reader) taken { x, e := roll.TakeLines(r); return taken{string(handLines(x)), e} }},
	}
	for _, x := range reaches() {
		k[0].puts = append(k[0].puts, func(b []byte) []byte { return roll.PutReach(b, x) })
	}
	for _, x := range cellLists() {
		k[1].puts = append(k[1].puts, func(b []byte) []byte { return roll.PutCells(b, x) })
	}
	for _, x := range lastsAll() {
		k[2].puts = append(k[2].puts, func(b []byte) []byte { return roll.PutLasts(b, x) })
	}
	for _, x := range lineLists() {
		k[3].puts = append(k[3].puts, func(b []byte) []byte { return roll.PutLines(b, x) })
	}
	return k
}

// zeros: what each kind of thing is beside an error, as it is told.
func zeros() []taken {
	return []taken{{"\x00", api.ErrForm}, {"\x00", api.ErrForm}, {strings.Repeat("\x00", 12), api.ErrForm}, {"\x00", api.ErrForm}}
}

// left tells all that a reader still has, as far as the calls tell it.
func left(r *pack.Reader) []any {
	var l []any
	for range 12 {
		l = append(l, r.End(), r.Failed(), r.Flag(), r.Number(math.MaxUint64), r.Text(greatest), r.Int(), r.Value(), r.Write())
	}
	return l
}

// tails: what may stand behind a thing.
func tails() [][]byte {
	return [][]byte{nil, of(0), of(1), of(2), of(8), of(9), of(255), of(0, 0, 0), of(1, 1, 1, 1), of(1, 0), bytes.Repeat(of(255), 20), bytes.Repeat(of(0), 99), of(sized(50)), of(1, 1, 2, 1, 97, 98, 1, 2), pack.Write(of(1, 1, 0), del(1, 1, "k"))}
}

func TestP7_1_GoodCells(t *testing.T) {
	one := func(key string, v api.Value) []api.Cell { return []api.Cell{{Key: key, Value: v}} }
	for i, l := range cellLists() {
		if !roll.GoodCells(l) {
			t.Errorf("%d: good cells aren't", i)
		}
	}
	five := num(5)
	for i, l := range [][]api.Cell{
		{{Key: "b", Value: five}, {Key: "a", Value: five}}, {{Key: "a", Value: five}, {Key: "a", Value: five}}, {{Key: "a", Value: five}, {Key: "a", Value: num(6)}}, {{Key: "ab", Value: five}, {Key: "a", Value: five}}, {{Key: "a", Value: five}, {Key: "c", Value: five}, {Key: "b", Value: five}}, {{Key: "a", Value: five}, {Key: "b", Value: five}, {Key: "b", Value: five}}, {{Key: "a", Value: five}, {Key: "b", Value: five}, {Key: "a", Value: five}},
		one("", five), one("A", five), one("a b", five), one("\xff", five), one(sized(api.MaxKey+1), five), {{Key: "", Value: five}, {Key: "a", Value: five}}, {{Key: "a", Value: five}, {Key: "b_", Value: five}},
		one("a", api.Value{}), {{Key: "a", Value: five}, {Key: "b"}}, {{Key: "a"}, {Key: "b", Value: five}}, {{}},
		one("a", text(sized(api.MaxText+1))), one("a", api.Value{Kind: 3}), one("a", api.Value{Kind: -1}), one("a", api.Value{Kind: api.Int, Text: "x"}), one("a", api.Value{Kind: api.Text, Num: 1}), one("a", api.Value{Num: 1}), {{Key: "a", Value: five}, {Key: "b", Value: api.Value{Kind: api.Int, Num: 1, Text: "x"}}},
	} {
		if roll.GoodCells(l) {
			t.Errorf("%d: %#v: good", i, l)
		}
	}
}

func TestP7_1_GoodLasts(t *testing.T) {
	for _, l := range lastsAll() {
		if !roll.GoodLasts(l) {
			t.Errorf("%v: not good", l)
		}
	}
	for dev := range api.MaxNodes {
		for _, n := range []int{least, -41, -1, 0, 1, api.MaxSeq - 1, api.MaxSeq, api.MaxSeq + 1, 255, 1 << 32, greatest} {
			x := roll.Lasts{0, 40, 39, 38, 37, 36, 5, 4, 3, 2, 1, 0}
			x[dev] = n
			if want := n == 0 || dev > 0 && n > 0 && n <= 40; roll.GoodLasts(x) != want {
				t.Errorf("%v: not %v", x, want)
			}
		}
	}
}

func TestP7_1_GoodLines(t *testing.T) {
	for i, l := range lineLists() {
		if !roll.GoodLines(l) {
			t.Errorf("%d: good lines aren't", i)
		}
	}
	at := func(all ...int) []roll.Line {
		var l []roll.Line
		for _, n := range all {
			l = append(l, roll.Line{At: n, Write: del(1, 1, "k")})
		}
		return l
	}
	for _, all := range [][]int{{-1}, {least}, {-1, 0}, {4096}, {4095, 4096}, {greatest}, {0, 1 << 32}, {0, 0}, {4095, 4095}, {1, 0}, {0, 2, 1}, {0, 2, 2}, {5, 6, 5}} {
		if roll.GoodLines(at(all...)) {
			t.Errorf("places %v: good", all)
		}
	}
	for _, all := range [][]int{{0}, {4095}, {0, 4095}, {0, 1, 2}, {7, 4000}} {
		if !roll.GoodLines(at(all...)) {
			t.Errorf("places %v: not good", all)
		}
	}
	for i, w := range badWrites() {
		for _, l := range [][]roll.Line{{{Write: w}}, {{At: 3, Write: w}, {At: 4, Write: del(1, 1, "k")}}, {{At: 3, Write: del(1, 1, "k")}, {At: 4, Write: w}}} {
			if roll.GoodLines(l) {
				t.Errorf("%d: lines of which a write isn't good: good", i)
			}
		}
	}
}

// badWrites: none of them good.
func badWrites() []api.Write {
	l := []api.Write{{}, del(0, 1, "k"), del(12, 1, "k"), del(-1, 1, "k"), del(1, 0, "k"), del(1, 41, "k"), del(1, 1, ""), del(1, 1, "K"), del(1, 1, sized(21)), put(1, 1, "k", api.Value{}), put(1, 1, "k", text(sized(41))), put(1, 1, "k", api.Value{Kind: 3})}
	for _, o := range []api.Op{{Key: "k"}, {Kind: 5, Key: "k"}, {Kind: api.Del, Key: "k", A: num(1)}, {Kind: api.Add, Key: "k", A: text("a")}, {Kind: api.Put, Key: "k", A: num(1), B: num(1)}} {
		l = append(l, api.Write{Id: api.Id{Dev: 1, Seq: 1}, Op: o})
	}
	return l
}

// behind looks at what puts a thing: its bytes, and those behind others; and that they are taken again.
func behind(t *testing.T, want []byte, put func(b []byte) []byte, take func(r *pack.Reader) taken) {
	t.Helper()
	if b := put(nil); !bytes.Equal(b, want) {
		t.Errorf("%s, want %s", short(b), short(want))
	}
	if b := put(of(9, 8)); !bytes.Equal(b, of(9, 8, want)) {
		t.Errorf("behind 9 8: %s, want %s behind", short(b), short(want))
	}
	r := pack.Open(want)
	if x, e := take(r), r.End(); x.told != string(want) || x.e != api.OK || e != api.OK {
		t.Errorf("taken of %s: %s, %d, %d", short(want), short(x.told), x.e, e)
	}
}

// P7.1, and R7: the bytes of some things, as they are written down here.
func TestP7_1_Reach(t *testing.T) {
	for _, c := range []struct {
		r api.Reach
		b []byte
	}{
		{nil, of(0)}, {api.Reach{""}, of(1, 1, 0)}, {api.Reach{"a"}, of(1, 1, 1, 1, 97)}, {api.Reach{"a", "b"}, of(1, 2, 1, 1, 97, 1, 1, 98)}, {api.Reach{"a.x", "n-1"}, of(1, 2, 1, 3, "a.x", 1, 3, "n-1")},
		{api.Reach{sized(20)}, of(1, 1, 1, 20, sized(20))}, {api.Reach{"0", "1", "2", "3", "4", "5"}, of(1, 6, 1, 1, "0", 1, 1, "1", 1, 1, "2", 1, 1, "3", 1, 1, "4", 1, 1, "5")},
	} {
		behind(t, c.b, func(b []byte) []byte { return roll.PutReach(b, c.r) }, kinds()[0].take)
		r := pack.Open(c.b)
		if x, e := roll.TakeReach(r); !slices.Equal(x, c.r) || e != api.OK {
			t.Errorf("TakeReach of %v: %q, %d", c.b, x, e)
		}
	}
}

func TestP7_1_Cells(t *testing.T) {
	for _, c := range []struct {
		l []api.Cell
		b []byte
	}{
		{nil, of(0)}, {[]api.Cell{{Key: "a", Value: num(5)}}, of(1, 1, 1, 1, "a", 1, 1, 1, 10)}, {[]api.Cell{{Key: "a", Value: text("xy")}}, of(1, 1, 1, 1, "a", 1, 2, 1, 2, "xy")}, {[]api.Cell{{Key: "a", Value: num(0)}, {Key: "b.1", Value: text("")}}, of(1, 2, 1, 1, "a", 1, 1, 0, 1, 3, "b.1", 1, 2, 0)},
		{[]api.Cell{{Key: "g", Value: num(greatest)}, {Key: "l", Value: num(least)}}, of(1, 2, 1, 1, "g", 1, 1, 8, 255, 255, 255, 255, 255, 255, 255, 254, 1, 1, "l", 1, 1, 8, 255, 255, 255, 255, 255, 255, 255, 255)},
		{[]api.Cell{{Key: sized(20), Value: text(sized(40))}}, of(1, 1, 1, 20, sized(20), 1, 2, 1, 40, sized(40))},
	} {
		behind(t, c.b, func(b []byte) []byte { return roll.PutCells(b, c.l) }, kinds()[1].take)
		r := pack.Open(c.b)
		if x, e := roll.TakeCells(r); !slices.Equal(x, c.l) || e != api.OK {
			t.Errorf("TakeCells of %v: %v, %d", c.b, x, e)
		}
	}
}

func TestP7_1_Lasts(t *testing.T) {
	for _, c := range []struct {
		l roll.Lasts
		b []byte
	}{
		{roll.Lasts{}, make([]byte, 12)}, {roll.Lasts{0, 40, 40, 40, 40, 40, 40, 40, 40, 40, 40, 40}, of(0, bytes.Repeat(of(1, 40), 11))}, {roll.Lasts{0, 1, 0, 0, 17}, of(0, 1, 1, 0, 0, 1, 17, 0, 0, 0, 0, 0, 0, 0)}, {roll.Lasts{11: 40}, of(make([]byte, 11), 1, 40)},
	} {
		behind(t, c.b, func(b []byte) []byte { return roll.PutLasts(b, c.l) }, kinds()[2].take)
		r := pack.Open(c.b)
		if x, e := roll.TakeLasts(r); x != c.l || e != api.OK {
			t.Errorf("TakeLasts of %v: %v, %d", c.b, x, e)
		}
	}
}

func TestP7_1_Lines(t *testing.T) {
	for _, c := range []struct {
		l []roll.Line
		b []byte
	}{
		{nil, of(0)}, {[]roll.Line{{At: 0, Write: del(1, 2, "k")}}, of(1, 1, 0, 1, 1, 1, 2, 1, 2, 1, 1, "k", 0, 0)}, {[]roll.Line{{At: 4095, Write: put(11, 40, "k", num(-1))}}, of(1, 1, 2, 15, 255, 1, 11, 1, 40, 1, 1, 1, 1, "k", 1, 1, 1, 1, 0)},
		{[]roll.Line{{At: 7, Write: del(1, 2, "k")}, {At: 300, Write: del(3, 4, "a.b")}}, of(1, 2, 1, 7, 1, 1, 1, 2, 1, 2, 1, 1, "k", 0, 0, 2, 1, 44, 1, 3, 1, 4, 1, 2, 1, 3, "a.b", 0, 0)},
	} {
		behind(t, c.b, func(b []byte) []byte { return roll.PutLines(b, c.l) }, kinds()[3].take)
		r := pack.Open(c.b)
		if x, e := roll.TakeLines(r); !slices.Equal(x, c.l) || e != api.OK {
			t.Errorf("TakeLines of %v: %v, %d", c.b, x, e)
		}
	}
}

// P7.1: of all samples the bytes are those that are put by hand.
func TestP7_1_PutAsByHand(t *testing.T) {
	for _, x := range reaches() {
		behind(t, handReach(x), func(b []byte) []byte { return roll.PutReach(b, x) }, kinds()[0].take)
	}
	for _, x := range cellLists() {
		behind(t, handCells(x), func(b []byte) []byte { return roll.PutCells(b, x) }, kinds()[1].take)
	}
	for _, x := range lastsAll() {
		behind(t, handLasts(x), func(b []byte) []byte { return roll.PutLasts(b, x) }, kinds()[2].take)
	}
	for _, x := range lineLists() {
		behind(t, handLines(x), func(b []byte) []byte { return roll.PutLines(b, x) }, kinds()[3].take)
	}
}

// none looks at bytes at whose front no good thing of a kind stands, whatever stands behind them.
func none(t *testing.T, kind int, b []byte) {
	t.Helper()
	for _, tail := range tails() {
		if x := kinds()[kind].take(pack.Open(of(b, tail))); x != zeros()[kind] {
			t.Errorf("%s of %s, with %s behind: %s, %d", kinds()[kind].name, short(b), short(tail), short(x.told), x.e)
		}
	}
}

// noNumbers: at whose front stands no number, or one that is above all limits.
func noNumbers() [][]byte {
	return [][]byte{of(9), of(255), of(1, 0), of(2, 0, 1), of(8, 0, 1, 1, 1, 1, 1, 1, 1), of(8, 255, 255, 255, 255, 255, 255, 255, 255), of(8, 128, 0, 0, 0, 0, 0, 0, 0), of(8, 127, 255, 255, 255, 255, 255, 255, 255), of(5, 1, 0, 0, 0, 0), of(5, 1, 0, 0, 0, 1)}
}

func TestP7_1_NoReach(t *testing.T) {
	for _, b := range noNumbers() {
		none(t, 0, b)
		none(t, 0, of(1, 1, b))
		none(t, 0, of(1, 2, 1, 1, "a", b))
	}
	seven := of(1, 7)
	for c := range 7 {
		seven = of(seven, 1, 1, 'a'+c)
	}
	none(t, 0, seven)
	for _, l := range [][]string{{"b", "a"}, {"a", "a"}, {"a", "a.x"}, {"", "a"}, {"", ""}, {"a", ""}, {"A"}, {"a b"}, {"\xff"}, {"a", "_"}, {sized(21)}, {"a", sized(21)}, {"a", "c", "b"}} {
		none(t, 0, handReach(l))
	}
}

func TestP7_1_NoCells(t *testing.T) {
	five := of(1, 1, 1, 10)
	for _, b := range noNumbers() {
		none(t, 1, b)
		none(t, 1, of(1, 1, b))
		none(t, 1, of(1, 1, 1, 1, "a", b))
		none(t, 1, of(1, 1, 1, 1, "a", 1, 2, b))
		none(t, 1, of(1, 2, 1, 1, "a", five, b))
	}
	for _, b := range [][]byte{
		of(1, 2, 1, 1, "b", five, 1, 1, "a", five), of(1, 2, 1, 1, "a", five, 1, 1, "a", five), of(1, 3, 1, 1, "a", five, 1, 1, "c", five, 1, 1, "b", five), of(1, 2, 1, 2, "ab", five, 1, 1, "a", five), // that don't rise
		of(1, 1, 0, five), of(1, 1, 1, 1, "A", five), of(1, 1, 1, 1, 255, five), of(1, 1, 1, 21, sized(21), five), of(1, 2, 1, 1, "a", five, 1, 1, "_", five), // no key
		of(1, 1, 1, 1, "a", 0), of(1, 2, 1, 1, "a", five, 1, 1, "b", 0), of(1, 2, 1, 1, "a", 0, 1, 1, "b", five), // nothing
		of(1, 1, 1, 1, "a", 1, 1, 9), of(1, 1, 1, 1, "a", 1, 1, 1, 0), of(1, 1, 1, 1, "a", 1, 1, 2, 0, 1), of(1, 1, 1, 1, "a", 1, 3), of(1, 1, 1, 1, "a", 1, 2, 1, 41, sized(41)), of(1, 1, 1, 1, "a", 5, 1, 0, 0, 0, 1, 1, 10), of(1, 2, 1, 1, "a", five, 1, 1, "b", 1, 3), // no value
	} {
		none(t, 1, b)
	}
}

func TestP7_1_NoLasts(t *testing.T) {
	for dev := range api.MaxNodes {
		good := bytes.Repeat(of(1, 40), max(dev-1, 0))
		if dev > 0 {
			good = of(0, good)
		}
		behind := bytes.Repeat(of(0), 20)
		for _, b := range append(noNumbers(), of(1, 41), of(1, 255), of(2, 1, 0), of(2, 1, 40)) {
			none(t, 2, of(good, b, behind))
		}
	}
	for n := 1; n <= 41; n++ { // of the root
		none(t, 2, of(1, n, make([]byte, 11)))
		none(t, 2, of(1, n, bytes.Repeat(of(1, 3), 11)))
	}
}

func TestP7_1_NoLines(t *testing.T) {
	k := of(1, 1, 1, 2, 1, 2, 1, 1, "k", 0, 0)
	for _, b := range append(noNumbers(), of(2, 16, 1), of(2, 255, 255), of(3, 1, 0, 0)) { // of how many: 4097 at least
		none(t, 3, b)
		none(t, 3, of(b, bytes.Repeat(of(0, k), 3)))
	}
	for _, b := range append(noNumbers(), of(2, 16, 0), of(2, 16, 1), of(2, 255, 255), of(3, 1, 0, 0)) { // of a place: 4096 at least
		none(t, 3, of(1, 1, b, k))
		none(t, 3, of(1, 2, 1, 5, k, b, k))
	}
	for _, b := range [][]byte{of(1, 2, 1, 5, k, 1, 4, k), of(1, 2, 1, 5, k, 1, 5, k), of(1, 2, 0, k, 0, k), of(1, 3, 1, 5, k, 1, 7, k, 1, 6, k), of(1, 3, 1, 5, k, 1, 7, k, 1, 5, k), of(1, 2, 2, 15, 255, k, 0, k)} {
		none(t, 3, b)
	}
	for _, w := range badWrites() {
		if w.Id.Dev < 0 {
			continue // that isn't put
		}
		none(t, 3, of(1, 1, 1, 5, handWrite(w)))
		none(t, 3, of(1, 2, 1, 5, k, 1, 6, handWrite(w)))
	}
	over := lineLists()[9] // one more than there are places
	none(t, 3, of(2, 16, 1, handLines(over)[3:], 2, 16, 0, k))
}

// P7.1: how many is told as more than stand there.
func TestP7_1_MoreThanStandThere(t *testing.T) {
	for i, k := range kinds() {
		if k.name == "Lasts" {
			continue
		}
		for j, put := range k.puts {
			b := put(nil)
			behind, many := b[1+int(b[0]):], uint64(0)
			for _, c := range b[1 : 1+int(b[0])] {
				many = many<<8 | uint64(c)
			}
			for _, n := range []uint64{many + 1, many + 255, 1 << 16, 1 << 32, greatest, greatest + 1, math.MaxUint64} {
				if x := k.take(pack.Open(of(pack.Number(nil, n), behind))); x != zeros()[i] {
					t.Errorf("%s %d, told as %d: %d", k.name, j, n, x.e)
				}
			}
		}
	}
}

// P7.1: bytes that end early.
func TestP7_1_BytesThatEndEarly(t *testing.T) {
	for i, k := range kinds() {
		for j, put := range k.puts {
			b := put(nil)
			for size := range b {
				if size > 200 && size < len(b)-60 {
					continue
				}
				r := pack.Open(b[:size])
				if x := k.take(r); x != zeros()[i] || r.End() != api.ErrForm {
					t.Fatalf("%s %d: taken of its first %d bytes: %d", k.name, j, size, x.e)
				}
			}
		}
	}
}

// P7.1: a reader that has an error has no thing at its front, not even an empty one.
func TestP7_1_AReaderWithAnError(t *testing.T) {
	for i, k := range kinds() {
		r := pack.Open(make([]byte, 99))
		r.Text(-1)
		for range 2 {
			if x := k.take(r); x != zeros()[i] {
				t.Errorf("%s: %d", k.name, x.e)
			}
		}
		if r = pack.Open(make([]byte, 99)); k.take(r).e != api.OK {
			t.Errorf("%s of noughts: none", k.name)
		}
	}
}

// P7.1: of bytes that are anything the answer is that of a reader by hand.
func TestP7_1_AnyBytes(t *testing.T) {
	had := map[taken]int{}
	for _, b := range randomBytes() {
		look(t, b)
		for i, k := range kinds() {
			x := k.take(pack.Open(b))
			had[taken{k.name, x.e}]++
			if x.e != api.OK && x != zeros()[i] {
				t.Fatalf("%s beside an error", k.name)
			}
		}
	}
	for _, k := range kinds() {
		if had[taken{k.name, api.OK}] < 500 || had[taken{k.name, api.ErrForm}] < 500 {
			t.Errorf("%s: taken %d times, refused %d times", k.name, had[taken{k.name, api.OK}], had[taken{k.name, api.ErrForm}])
		}
	}
}

func TestP7_1_Writes(t *testing.T) {
	for i, l := range lineLists() {
		var want []api.Write
		for _, x := range l {
			want = append(want, x.Write)
		}
		if w := roll.Writes(l); !slices.Equal(w, want) {
			t.Errorf("%d: other writes, or in another order", i)
		}
	}
	a, b := put(3, 7, "b", num(1)), del(1, 1, "a")
	if w := roll.Writes([]roll.Line{{At: 4, Write: a}, {At: 9, Write: b}}); !slices.Equal(w, []api.Write{a, b}) {
		t.Errorf("of two lines: %v", w)
	}
	if w := roll.Writes(nil); len(w) != 0 {
		t.Errorf("of no lines: %v", w)
	}
}

// P7.2: what is put is taken again, whatever stands behind it, and of that nothing is gone.
func TestP7_2_WhatIsPutIsTakenAgain(t *testing.T) {
	for _, k := range kinds() {
		for j, put := range k.puts {
			b := put(nil)
			for _, tail := range tails() {
				r := pack.Open(of(b, tail))
				if x := k.take(r); x.told != string(b) || x.e != api.OK {
					t.Errorf("%s %d, with %s behind: %d", k.name, j, short(tail), x.e)
				}
				if x, y := left(r), left(pack.Open(tail)); !slices.Equal(x, y) {
					t.Errorf("%s %d: of %s behind it something is gone", k.name, j, short(tail))
				}
			}
		}
	}
}

// P7.2: things of all kinds, one behind the other.
func TestP7_2_ManyThings(t *testing.T) {
	all := kinds()
	for j := range 40 {
		b := pack.Flag(nil, true)
		var want []string
		for i := range 8 {
			k := all[(i*3+j)%4]
			put := k.puts[(i+j)%len(k.puts)]
			b = put(b)
			want = append(want, string(put(nil)))
		}
		r := pack.Open(b)
		if !r.Flag() {
			t.Fatal("no flag")
		}
		for i, w := range want {
			if x := all[(i*3+j)%4].take(r); x.told != w || x.e != api.OK {
				t.Errorf("%d: thing %d: %d", j, i, x.e)
			}
		}
		if e := r.End(); e != api.OK {
			t.Errorf("%d: End: %d", j, e)
		}
	}
}

// P7.2: no two of one kind are put alike, nor is one the other's beginning.
func TestP7_2_NoTwoAlike(t *testing.T) {
	for _, k := range kinds() {
		var all [][]byte
		for _, put := range k.puts {
			all = append(all, put(nil))
		}
		slices.SortFunc(all, bytes.Compare)
		for i := 1; i < len(all); i++ { // what begins with one stands right behind it
			if bytes.HasPrefix(all[i], all[i-1]) {
				t.Errorf("%s: %s begins %s", k.name, short(all[i-1]), short(all[i]))
			}
		}
	}
}
