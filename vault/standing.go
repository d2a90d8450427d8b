package vault

import (
	"errors"
	"strconv"

	"spinney/api"
	"spinney/frame"
	"spinney/ledger"
	"spinney/pith"
	"spinney/slate"
	"spinney/wide"
)

// How the peg tells an extent.
const (
	firstWidth  = 2
	lengthWidth = 4
	sumWidth    = 4
	lengthAt    = firstWidth
	sumAt       = lengthAt + lengthWidth
	toldWidth   = sumAt + sumWidth
)

// errNoVault: what isn't a vault's.
var errNoVault = errors.New("not a vault's")

// part: what of a slate isn't a vault's, and with which error.
type part struct {
	name  string
	errno api.Errno
}

// Error tells both.
func (p part) Error() string {
	return p.name + ", error " + strconv.Itoa(int(p.errno)) + ": " + errNoVault.Error()
}

// Unwrap is that it isn't a vault's, alone.
func (p part) Unwrap() error { return errNoVault }

// told is an extent as the peg's bytes.
func told(x ledger.Extent) []byte {
	b := wide.Put(nil, uint64(x.First), firstWidth)
	b = wide.Put(b, uint64(x.Length), lengthWidth)
	return wide.Put(b, uint64(x.Sum), sumWidth)
}

// standing is the ledger that the peg's bytes tell, and the state that its pieces come to.
func standing(s *slate.Slate, b []byte) (*ledger.Ledger, pith.State, error) {
	if len(b) != toldWidth {
		return nil, pith.State{}, part{"the peg's bytes", api.ErrForm}
	}
	x := ledger.Extent{First: int(wide.Take(b[:lengthAt])), Length: int(wide.Take(b[lengthAt:sumAt])), Sum: uint32(wide.Take(b[sumAt:]))}
	l, pieces, e := ledger.Open(s, x)
	if e != api.OK {
		return nil, pith.State{}, part{"the ledger", e}
	}
	state, err := replayed(pieces)
	return l, state, err
}

// replayed is the state that pieces come to: the first is a state's, the others are entries'.
func replayed(pieces []frame.Piece) (pith.State, error) {
	if len(pieces) == 0 {
		return pith.State{}, part{"no piece", api.ErrNone}
	}
	state, e := pith.TakeState(pieces[0])
	if e != api.OK {
		return pith.State{}, part{"the state's piece", e}
	}
	for _, p := range pieces[1:] {
		entry, e := pith.TakeEntry(p)
		if e != api.OK {
			return pith.State{}, part{"an entry's piece", e}
		}
		if state, e = pith.Do(state, entry); e != api.OK {
			return pith.State{}, part{"an entry", e}
		}
	}
	return state, nil
}
