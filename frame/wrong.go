package frame

import (
	"errors"
	"strconv"

	"spinney/api"
)

// number: an error's, as an error.
type number api.Errno

// Error tells it.
func (n number) Error() string { return "error " + strconv.Itoa(int(n)) }

// wrongLength: a length that can't be, and the number of what is wrong with it.
type wrongLength struct {
	length int
	errno  api.Errno
}

// Error tells both.
func (w wrongLength) Error() string {
	return "a length of " + strconv.Itoa(w.length) + ": " + w.Unwrap().Error()
}

// Unwrap is the number alone.
func (w wrongLength) Unwrap() error { return number(w.errno) }

// answer is what an error is to those who call.
func answer(err error) api.Errno {
	var n number
	if errors.As(err, &n) {
		return api.Errno(n)
	}
	return api.OK
}
