// Package cell is layer 1: what may stand at a key: nothing, an int, or a text: see shared/doc/01-cell.md.
package cell

import (
	"cmp"
	"strconv"
	"strings"

	"spinney/api"
)

// nothing is the text of the value that is nothing.
const nothing = "nil"

// quote stands at both ends of a text's text, escape ahead of the two digits of a byte.
const (
	quote  = '"'
	escape = '%'
	digits = "0123456789abcdef"
)

// Good: is it one?
func Good(v api.Value) bool {
	switch v.Kind {
	case api.None:
		return v.Num == 0 && v.Text == ""
	case api.Int:
		return v.Text == ""
	case api.Text:
		return v.Num == 0 && len(v.Text) <= api.MaxText
	}
	return false
}

// Compare: by the order.
func Compare(a, b api.Value) int {
	// The kinds are numbered in the order in which their values stand.
	if a.Kind != b.Kind {
		return cmp.Compare(a.Kind, b.Kind)
	}
	switch a.Kind {
	case api.Int:
		return cmp.Compare(a.Num, b.Num)
	case api.Text:
		return strings.Compare(a.Text, b.Text)
	}
	return 0
}

// Sum: of two ints.
func Sum(a, b api.Value) (api.Value, api.Errno) {
	if a.Kind != api.Int || b.Kind != api.Int {
		return api.Value{}, api.ErrKind
	}
	n := a.Num + b.Num
	// A sum wraps round just when it isn't on that side of a to which b leads.
	if (n < a.Num) != (b.Num < 0) {
		return api.Value{}, api.ErrOver
	}
	return api.Value{Kind: api.Int, Num: n}, api.OK
}

// Text: a value's.
func Text(v api.Value) string {
	switch v.Kind {
	case api.None:
		return nothing
	case api.Int:
		return strconv.Itoa(v.Num)
	case api.Text:
		return quoted(v.Text)
	}
	return ""
}

// Read: a text's value.
func Read(s string) (api.Value, api.Errno) {
	if s == nothing {
		return api.Value{}, api.OK
	}
	if len(s) > 0 && s[0] == quote {
		return readText(s)
	}
	return readInt(s)
}

// plain tells whether a byte stands for itself in a text's text.
func plain(c byte) bool {
	return c >= 33 && c <= 126 && c != quote && c != escape
}

func quoted(s string) string {
	var b strings.Builder
	b.WriteByte(quote)
	for i := 0; i < len(s); i++ {
		c := s[i]
		if plain(c) {
			b.WriteByte(c)
			continue
		}
		b.WriteByte(escape)
		b.WriteByte(digits[c>>4])
		b.WriteByte(digits[c&15])
	}
	b.WriteByte(quote)
	return b.String()
}

// readText reads what begins with a quote.
func readText(s string) (api.Value, api.Errno) {
	if len(s) < 2 || s[len(s)-1] != quote {
		return api.Value{}, api.ErrForm
	}
	var b strings.Builder
	for rest := s[1 : len(s)-1]; rest != ""; {
		c, n, ok := readByte(rest)
		if !ok {
			return api.Value{}, api.ErrForm
		}
		b.WriteByte(c)
		rest = rest[n:]
	}
	// Only now: what is too long is told of texts that are formed well to their end.
	if b.Len() > api.MaxText {
		return api.Value{}, api.ErrRange
	}
	return api.Value{Kind: api.Text, Text: b.String()}, api.OK
}

// readByte reads the byte for which the front of s stands, and tells how many bytes of s that takes.
func readByte(s string) (byte, int, bool) {
	if plain(s[0]) {
		return s[0], 1, true
	}
	if s[0] != escape || len(s) < 3 {
		return 0, 0, false
	}
	high, low := strings.IndexByte(digits, s[1]), strings.IndexByte(digits, s[2])
	if high < 0 || low < 0 {
		return 0, 0, false
	}
	c := byte(high<<4 | low)
	// A byte that stands for itself has no other text.
	return c, 3, !plain(c)
}

// readInt reads an int's digits.
func readInt(s string) (api.Value, api.Errno) {
	size, below := strings.CutPrefix(s, "-")
	if !number(size) || below && size == "0" {
		return api.Value{}, api.ErrForm
	}
	n, err := strconv.Atoi(s)
	if err != nil { // of digits alone only the range is left to be wrong
		return api.Value{}, api.ErrRange
	}
	return api.Value{Kind: api.Int, Num: n}, api.OK
}

// number tells whether s is digits alone, the first of several no nought.
func number(s string) bool {
	for i, r := range s {
		if r < '0' || r > '9' || i == 1 && s[0] == '0' {
			return false
		}
	}
	return s != ""
}
