package ledger

import (
	"errors"
	"strconv"

	"spinney/api"
	"spinney/frame"
)

var (
	errSum    = errors.New("another sum")
	errFrames = errors.New("not just frames")
)

// rotten: a ledger whose bytes aren't as they are told, and what is wrong with them.
type rotten struct {
	first, length int
	why           error
}

// Error tells all of it.
func (r rotten) Error() string {
	return strconv.Itoa(r.length) + " bytes from file " + strconv.Itoa(r.first) + " on: " + r.why.Error()
}

// Unwrap is what is wrong alone.
func (r rotten) Unwrap() error { return r.why }

// answer is what an error is to those who call.
func answer(err error) api.Errno {
	if errors.Is(err, errSum) || errors.Is(err, errFrames) {
		return api.ErrRot
	}
	return api.OK
}

// pieces are those of a ledger whose bytes have this sum.
func (l *Ledger) pieces(sum uint32) ([]frame.Piece, error) {
	if frame.Sum(l.bytes) != sum {
		return nil, rotten{l.first, len(l.bytes), errSum}
	}
	pieces, _, e := frame.Scan(l.bytes)
	if e != api.OK {
		return nil, rotten{l.first, len(l.bytes), errFrames}
	}
	return pieces, nil
}
