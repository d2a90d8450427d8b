// Package fresh makes things anew: an answer of a layer shares no memory with what was handed in.
package fresh

import (
	"strings"

	"spinney/api"
)

// Write: the same one, its texts in memory of its own.
func Write(w api.Write) api.Write {
	w.Op.Key = strings.Clone(w.Op.Key)
	w.Op.A.Text = strings.Clone(w.Op.A.Text)
	w.Op.B.Text = strings.Clone(w.Op.B.Text)
	return w
}

// Texts: the same ones, in a list and memory of their own.
func Texts(l []string) []string {
	own := make([]string, len(l))
	for i, s := range l {
		own[i] = strings.Clone(s)
	}
	return own
}
