package pack

import (
	"errors"
	"math"
	"strings"

	"spinney/api"
	"spinney/cell"
	"spinney/stamp"
)

// errShort: bytes end within a thing, or ahead of it.
var errShort = errors.New("the bytes end within a thing")

// wrong: whatever else is wrong with bytes, and what is answered for it.
type wrong struct {
	why   string
	errno api.Errno
}

// Error tells why.
func (w wrong) Error() string { return w.why }

// Reader: takes things from bytes.
type Reader struct {
	rest string // a string, so that it is the reader's own and stays as it is
	err  error  // the first one: with it nothing is taken any more
}

// Open: a reader.
func Open(b []byte) *Reader {
	return &Reader{rest: string(b)}
}

// Number: of at most so much.
func (r *Reader) Number(most uint64) uint64 {
	size := r.next()
	r.must(size <= 8, "a number of more than eight bytes")
	digits := r.take(int(size))
	r.must(digits == "" || digits[0] != 0, "a number with a 0 ahead")
	var n uint64
	for i := range len(digits) {
		n = n<<8 | uint64(digits[i])
	}
	r.must(n <= most, "a number above the most")
	return sound(r, n)
}

// Int: an int.
func (r *Reader) Int() int {
	return unfolded(r.Number(math.MaxUint64))
}

// Text: of at most so many bytes.
func (r *Reader) Text(most int) string {
	return strings.Clone(r.take(r.count(most)))
}

// Flag: a flag.
func (r *Reader) Flag() bool {
	c := r.next()
	r.must(c <= 1, "a flag that is neither 0 nor 1")
	return c == 1
}

// Value: a good value.
func (r *Reader) Value() api.Value {
	v := api.Value{Kind: api.Kind(r.small())}
	switch v.Kind {
	case api.Int:
		v.Num = r.Int()
	case api.Text:
		v.Text = r.Text(api.MaxText)
	}
	r.must(cell.Good(v), "no good value")
	return sound(r, v)
}

// Write: a good write.
func (r *Reader) Write() api.Write {
	var w api.Write
	w.Id.Dev = r.small()
	w.Id.Seq = r.small()
	w.Op.Kind = r.small()
	w.Op.Key = r.Text(api.MaxKey)
	w.Op.A = r.Value()
	w.Op.B = r.Value()
	r.must(stamp.Good(w), "no good write")
	return sound(r, w)
}

// Writes: at most so many.
func (r *Reader) Writes(most int) []api.Write {
	var l []api.Write
	// How many are told may be far more than stand there: the list grows only by those that do.
	for left := r.count(most); left > 0 && r.err == nil; left-- {
		l = append(l, r.Write())
	}
	return sound(r, l)
}

// End: is all taken, and right?
func (r *Reader) End() api.Errno {
	if r.err == nil && r.rest != "" {
		// The reader hasn't this error: it may take what is left.
		return answer(wrong{"bytes are left", api.ErrForm})
	}
	return answer(r.err)
}

// Failed: has it an error? (Beside the chapter's calls: what takes greater things asks it, as End can't tell while bytes are left.)
func (r *Reader) Failed() bool {
	return r.err != nil
}

// answer is what an error is to those who call.
func answer(err error) api.Errno {
	var w wrong
	switch {
	case errors.Is(err, errShort):
		return api.ErrForm
	case errors.As(err, &w):
		return w.errno
	}
	return api.OK
}

// fail has the reader have an error, if it has none yet.
func (r *Reader) fail(err error) {
	if r.err == nil {
		r.rest, r.err = "", err
	}
}

// must has it have one, if what is asked of a thing doesn't hold.
func (r *Reader) must(holds bool, why string) {
	if !holds {
		r.fail(wrong{why, api.ErrForm})
	}
}

// sound is a thing that was taken; of a reader that has an error the zero one.
func sound[T any](r *Reader, thing T) T {
	if r.err != nil {
		var none T
		return none
	}
	return thing
}

// take takes the next n bytes, or none.
func (r *Reader) take(n int) string {
	if n > len(r.rest) {
		r.fail(errShort)
	}
	if r.err != nil {
		return ""
	}
	ahead := r.rest[:n]
	r.rest = r.rest[n:]
	return ahead
}

// next takes the next byte, or is 0.
func (r *Reader) next() byte {
	if ahead := r.take(1); ahead != "" {
		return ahead[0]
	}
	return 0
}

// count takes how many there are of something, at most most; of less than none there is nothing that could be so.
func (r *Reader) count(most int) int {
	r.must(most >= 0, "at most less than none")
	return int(r.Number(uint64(max(most, 0))))
}

// small takes a number that is an int as it is.
func (r *Reader) small() int {
	return int(r.Number(math.MaxInt))
}
