package peg

import (
	"bytes"
	"errors"
	"math"

	"spinney/api"
	"spinney/frame"
	"spinney/wide"
)

// The parts of a block: the mark, the turn, how many bytes it has, these, noughts, the sum.
const (
	mark      = 0x4d
	turnWidth = 8
	sumWidth  = 4
	sizeAt    = 1 + turnWidth
	whatAt    = sizeAt + 1
	sumAt     = api.Block - sumWidth
)

var (
	errBlank  = errors.New("a block of noughts alone")
	errSpoilt = errors.New("a block that is neither blank nor a peg's")
)

// made is the block of a turn and bytes, of which there may be so many.
func made(turn int, what []byte) []byte {
	b := wide.Put([]byte{mark}, uint64(turn), turnWidth)
	b = append(b, byte(len(what)))
	b = append(b, what...)
	b = append(b, make([]byte, sumAt-len(b))...)
	return wide.Put(b, uint64(frame.Sum(b)), sumWidth)
}

// told is the turn and the bytes that a block tells, where it stands as the one of this number.
func told(block int, b []byte) (int, []byte, error) {
	if bytes.Equal(b, make([]byte, api.Block)) {
		return 0, nil, errBlank
	}
	turn, size := wide.Take(b[1:sizeAt]), int(b[sizeAt])
	if turn == 0 || turn > math.MaxInt || int(turn)%blocks != block || size > most {
		return 0, nil, errSpoilt
	}
	what := b[whatAt : whatAt+size]
	// Of a turn and bytes there is just one block: so mark, noughts and sum are looked at, too.
	if !bytes.Equal(b, made(int(turn), what)) {
		return 0, nil, errSpoilt
	}
	return int(turn), what, nil
}
