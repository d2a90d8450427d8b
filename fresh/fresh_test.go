package fresh_test

import (
	"slices"
	"strings"
	"testing"
	"unsafe"

	"spinney/api"
	"spinney/fresh"
)

// apart tells whether two texts are the same, each in memory of its own.
func apart(a, b string) bool {
	return a == b && (a == "" || unsafe.StringData(a) != unsafe.StringData(b))
}

func TestValue(t *testing.T) {
	for _, v := range []api.Value{{}, {Kind: api.Int, Num: -5}, {Kind: api.Text, Text: strings.Clone("some")}, {Kind: 7, Num: 1, Text: strings.Clone("\xff")}} {
		if x := fresh.Value(v); x != v || !apart(x.Text, v.Text) {
			t.Errorf("Value(%#v): %#v, or its memory", v, x)
		}
	}
}

func TestCell(t *testing.T) {
	for _, c := range []api.Cell{{}, {Key: strings.Clone("k.1"), Value: api.Value{Kind: api.Int, Num: 3}}, {Key: strings.Clone("k"), Value: api.Value{Kind: api.Text, Text: strings.Clone("some")}}} {
		if x := fresh.Cell(c); x != c || !apart(x.Key, c.Key) || !apart(x.Value.Text, c.Value.Text) {
			t.Errorf("Cell(%#v): %#v, or its memory", c, x)
		}
	}
}

func TestWrite(t *testing.T) {
	w := api.Write{Id: api.Id{Dev: 3, Seq: 17}, Op: api.Op{Kind: api.Cas, Key: strings.Clone("k.1"), A: api.Value{Kind: api.Text, Num: 5, Text: strings.Clone("old")}, B: api.Value{Kind: 7, Num: -1, Text: strings.Clone("new")}}}
	x := fresh.Write(w)
	if x != w || !apart(x.Op.Key, w.Op.Key) || !apart(x.Op.A.Text, w.Op.A.Text) || !apart(x.Op.B.Text, w.Op.B.Text) {
		t.Errorf("Write(%#v): %#v, or its memory", w, x)
	}
	if x := fresh.Write(api.Write{}); x != (api.Write{}) {
		t.Errorf("Write of the zero write: %#v", x)
	}
}

func TestTexts(t *testing.T) {
	l := append(make([]string, 0, 9), strings.Clone("a"), "", strings.Clone("b.\xff"))
	own := fresh.Texts(l)
	if !slices.EqualFunc(own, l, apart) {
		t.Errorf("Texts(%q): %q, or its memory", l, own)
	}
	clear(own[:cap(own)])
	if !slices.Equal(l, []string{"a", "", "b.\xff"}) {
		t.Errorf("the list has changed: %q", l)
	}
	if len(fresh.Texts(nil)) != 0 || len(fresh.Texts([]string{})) != 0 {
		t.Error("Texts of none")
	}
}
