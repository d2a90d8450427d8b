// Package fresh makes things anew: an answer of a layer shares no memory with what was handed in.
package fresh

import (
	"strings"

	"spinney/api"
)

// Value: the same one, its text in memory of its own.
func Value(v api.Value) api.Value {
	v.Text = strings.Clone(v.Text)
	return v
}

// Cell: likewise, its texts.
func Cell(c api.Cell) api.Cell {
	return api.Cell{Key: strings.Clone(c.Key), Value: Value(c.Value)}
}

// Write: likewise.
func Write(w api.Write) api.Write {
	w.Op.Key = strings.Clone(w.Op.Key)
	w.Op.A, w.Op.B = Value(w.Op.A), Value(w.Op.B)
	return w
}

// Texts: the same ones, in a list and memory of their own.
func Texts(l []string) []string {
	return Each(l, strings.Clone)
}

// Cells: likewise.
func Cells(l []api.Cell) []api.Cell {
	return Each(l, Cell)
}

// Writes: likewise.
func Writes(l []api.Write) []api.Write {
	return Each(l, Write)
}

// Each: what one makes of each of a list, in a list of their own.
func Each[T any](l []T, one func(T) T) []T {
	own := make([]T, len(l))
	for i, x := range l {
		own[i] = one(x)
	}
	return own
}
