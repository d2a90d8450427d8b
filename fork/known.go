package fork

import (
	"cmp"
	"errors"

	"spinney/letter"
)

var (
	errOther = errors.New("a letter that isn't to this node from another one")
	errLater = errors.New("a later session than that which the child has here, if it has one")
	errElder = errors.New("an elder session than that which the child has here")
)

// session is the one that it has, if a letter is of that.
func (f *Fork) session(l letter.Letter) (*heard, error) {
	if l.To != f.node || l.From == f.node {
		return nil, errOther
	}
	s, has := f.sessions[l.From]
	if !has {
		return nil, errLater
	}
	switch cmp.Or(cmp.Compare(l.Life, s.Life), cmp.Compare(l.Turn, s.Turn)) {
	case 1:
		return nil, errLater
	case -1:
		return nil, errElder
	}
	return s, nil
}
