package fresh_test

import (
	"slices"
	"strings"
	"testing"
	"unsafe"

	"spinney/api"
	"spinney/fresh"
)

// apart tells whether two texts are the same, each in memory of its own.
func apart(a, b string) bool {
	return a == b && (a == "" || unsafe.StringData(a) != unsafe.StringData(b))
}

func TestWrite(t *testing.T) {
	w := api.Write{Id: api.Id{Dev: 3, Seq: 17}, Op: api.Op{Kind: api.Cas, Key: strings.Clone("k.1"), A: api.Value{Kind: api.Text, Num: 5, Text: strings.Clone("old")}, B: api.Value{Kind: 7, Num: -1, Text: strings.Clone("new")}}}
	x := fresh.Write(w)
	if x != w || !apart(x.Op.Key, w.Op.Key) || !apart(x.Op.A.Text, w.Op.A.Text) || !apart(x.Op.B.Text, w.Op.B.Text) {
		t.Errorf("Write(%#v): %#v, or its memory", w, x)
	}
	if x := fresh.Write(api.Write{}); x != (api.Write{}) {
		t.Errorf("Write of the zero write: %#v", x)
	}
}

func TestTexts(t *testing.T) {
	l := append(make([]string, 0, 9), strings.Clone("a"), "", strings.Clone("b.\xff"))
	own := fresh.Texts(l)
	if !slices.EqualFunc(own, l, apart) {
		t.Errorf("Texts(%q): %q, or its memory", l, own)
	}
	clear(own[:cap(own)])
	if !slices.Equal(l, []string{"a", "", "b.\xff"}) {
		t.Errorf("the list has changed: %q", l)
	}
	if len(fresh.Texts(nil)) != 0 || len(fresh.Texts([]string{})) != 0 {
		t.Error("Texts of none")
	}
}
