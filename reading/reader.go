// Package reading goes through a text byte by byte.
package reading

// Reader never goes past a byte that cannot stand, so that after a refusal its
// place is the one to be told.
type Reader struct {
	Text  string
	Place int
}

// AtEnd tells whether there is no next byte.
func (r *Reader) AtEnd() bool {
	return r.Place == len(r.Text)
}

// Take goes past the next byte, if there is one between first and last.
func (r *Reader) Take(first, last byte) (byte, bool) {
	if r.AtEnd() {
		return 0, false
	}
	b := r.Text[r.Place]
	if b < first || b > last {
		return 0, false
	}
	r.Place++
	return b, true
}

// TakeJust goes past the next byte, if it is this one.
func (r *Reader) TakeJust(b byte) bool {
	_, ok := r.Take(b, b)
	return ok
}

// TwoDigits reads the number of a byte, as two digits to the base 16.
func (r *Reader) TwoDigits() (byte, bool) {
	high, ok := r.digit()
	if !ok {
		return 0, false
	}
	low, ok := r.digit()
	return high*16 + low, ok
}

// digit reads a digit to the base 16; great letters are none.
func (r *Reader) digit() (byte, bool) {
	if b, ok := r.Take('0', '9'); ok {
		return b - '0', true
	}
	b, ok := r.Take('a', 'f')
	return b - 'a' + 10, ok
}
