package spine

import (
	"errors"
	"slices"

	"spinney/api"
	"spinney/reach"
	"spinney/roll"
)

// refusal: why something isn't done, and what is answered for it.
type refusal struct {
	why   string
	errno api.Errno
}

// Error tells why.
func (r refusal) Error() string { return r.why }

// unless is an error, if what is asked doesn't hold.
func unless(holds bool, errno api.Errno, why string) error {
	if holds {
		return nil
	}
	return refusal{why, errno}
}

// first is what is answered for the first that is an error.
func first(errs ...error) api.Errno {
	for _, err := range errs {
		var r refusal
		if errors.As(err, &r) {
			return r.errno
		}
	}
	return api.OK
}

// span looks at two places, and lines that are to stand from the one to below the other.
func span(start, end int, l []roll.Line) error {
	outside := func(x roll.Line) bool { return x.At < start || x.At >= end }
	return unless(0 <= start && start <= end && end <= lastEnd && roll.GoodLines(l) && !slices.ContainsFunc(l, outside), api.ErrForm, "places, or lines, that can't be so")
}

// hasKeys looks whether its reach has all keys of cells and lines.
func (s *Spine) hasKeys(c []api.Cell, l []roll.Line) error {
	cellOutside := func(x api.Cell) bool { return !reach.Has(s.reach, x.Key) }
	lineOutside := func(x roll.Line) bool { return !reach.Has(s.reach, x.Write.Op.Key) }
	return unless(!slices.ContainsFunc(c, cellOutside) && !slices.ContainsFunc(l, lineOutside), api.ErrReach, "a key that the reach doesn't have")
}

// place looks whether it has what stands from a place on.
func (s *Spine) place(at int) api.Errno {
	return first(
		unless(at <= s.stem.End, api.ErrRange, "a place above the end"),
		unless(at >= s.stem.Base, api.ErrBelow, "a place below the base"),
	)
}
