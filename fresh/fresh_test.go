package fresh_test

import (
	"slices"
	"strings"
	"testing"
	"unsafe"

	"spinney/api"
	"spinney/fresh"
)

// apart tells whether two texts are the same, each in memory of its own.
func apart(a, b string) bool {
	return a == b && (a == "" || unsafe.StringData(a) != unsafe.StringData(b))
}

func TestValue(t *testing.T) {
	for _, v := range []api.Value{{}, {Kind: api.Int, Num: -5}, {Kind: api.Text, Text: strings.Clone("some")}, {Kind: 7, Num: 1, Text: strings.Clone("\xff")}} {
		if x := fresh.Value(v); x != v || !apart(x.Text, v.Text) {
			t.Errorf("Value(%#v): %#v, or its memory", v, x)
		}
	}
}

func TestCell(t *testing.T) {
	for _, c := range []api.Cell{{}, {Key: strings.Clone("k.1"), Value: api.Value{Kind: api.Int, Num: 3}}, {Key: strings.Clone("k"), Value: api.Value{Kind: api.Text, Text: strings.Clone("some")}}} {
		if x := fresh.Cell(c); x != c || !apart(x.Key, c.Key) || !apart(x.Value.Text, c.Value.Text) {
			t.Errorf("Cell(%#v): %#v, or its memory", c, x)
		}
	}
}

func TestWrite(t *testing.T) {
	w := api.Write{Id: api.Id{Dev: 3, Seq: 17}, Op: api.Op{Kind: api.Cas, Key: strings.Clone("k.1"), A: api.Value{Kind: api.Text, Num: 5, Text: strings.Clone("old")}, B: api.Value{Kind: 7, Num: -1, Text: strings.Clone("new")}}}
	x := fresh.Write(w)
	if x != w || !apart(x.Op.Key, w.Op.Key) || !apart(x.Op.A.Text, w.Op.A.Text) || !apart(x.Op.B.Text, w.Op.B.Text) {
		t.Errorf("Write(%#v): %#v, or its memory", w, x)
	}
	if x := fresh.Write(api.Write{}); x != (api.Write{}) {
		t.Errorf("Write of the zero write: %#v", x)
	}
}

func TestTexts(t *testing.T) {
	l := append(make([]string, 0, 9), strings.Clone("a"), "", strings.Clone("b.\xff"))
	own := fresh.Texts(l)
	if !slices.EqualFunc(own, l, apart) {
		t.Errorf("Texts(%q): %q, or its memory", l, own)
	}
	clear(own[:cap(own)])
	if !slices.Equal(l, []string{"a", "", "b.\xff"}) {
		t.Errorf("the list has changed: %q", l)
	}
	if len(fresh.Texts(nil)) != 0 || len(fresh.Texts([]string{})) != 0 {
		t.Error("Texts of none")
	}
}

func TestLists(t *testing.T) {
	w := append(make([]api.Write, 0, 9), api.Write{Id: api.Id{Dev: 3, Seq: 17}, Op: api.Op{Kind: api.Put, Key: strings.Clone("k.1"), A: api.Value{Kind: api.Text, Text: strings.Clone("some")}}}, api.Write{})
	c := append(make([]api.Cell, 0, 9), api.Cell{Key: strings.Clone("k.1"), Value: api.Value{Kind: api.Text, Text: strings.Clone("some")}}, api.Cell{})
	writes, cells := fresh.Writes(w), fresh.Cells(c)
	if !slices.Equal(writes, w) || !slices.Equal(cells, c) || !apart(writes[0].Op.Key, w[0].Op.Key) || !apart(writes[0].Op.A.Text, w[0].Op.A.Text) || !apart(cells[0].Key, c[0].Key) || !apart(cells[0].Value.Text, c[0].Value.Text) {
		t.Errorf("%v, %v, or their memory", writes, cells)
	}
	clear(writes[:cap(writes)])
	clear(cells[:cap(cells)])
	if w[0].Id.Seq != 17 || c[0].Key != "k.1" || !slices.Equal(w[:9][2:], make([]api.Write, 7)) {
		t.Error("what was handed in has changed")
	}
	if len(fresh.Writes(nil)) != 0 || len(fresh.Cells(nil)) != 0 {
		t.Error("lists of none")
	}
}

func TestEach(t *testing.T) {
	l := append(make([]int, 0, 9), 1, 2, 3)
	own := fresh.Each(l, func(n int) int { return n * n })
	if !slices.Equal(own, []int{1, 4, 9}) || len(fresh.Each(nil, func(n int) int { return n })) != 0 {
		t.Errorf("Each: %v", own)
	}
	clear(own[:cap(own)])
	if !slices.Equal(l, []int{1, 2, 3}) {
		t.Errorf("the list has changed: %v", l)
	}
}
