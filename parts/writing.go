package parts

import (
	"slices"

	"press/api"
	"press/syntax"
	"press/values"
)

// writing is bytes that are being written from a value.
type writing struct {
	walk
	bytes   []byte
	tooWide bool       // whether a hidden number was too great for its bytes
	waiting []waiting  // what waits, in the order in which it was met
	sums    [][]summed // of the main bytes, and of each that waited, the sums
}

// hiddenPlaces are the hidden numbers of a struct that were written so far.
type hiddenPlaces [syntax.Dependencies]hiddenPlace

// hiddenPlace is where a hidden number stands, and how its bytes are put there.
type hiddenPlace struct {
	place int
	width int
	put   func(bytes []byte, n uint32)
}

// waiting is the part of an at part, which is to be written later on.
type waiting struct {
	part   *syntax.Part
	value  *values.Value
	hidden *hiddenPlaces
	place  hiddenPlace // of the number that tells where the part is
}

// summed is bytes from a place up to another, and where their sum stands.
type summed struct {
	from, to int
	hidden   hiddenPlace
}

// Generate writes the bytes of the first rule's part with a value, no more than
// so many, or tells the error.
func Generate(g *syntax.Grammar, v *values.Value, most int) (string, api.Errno) {
	w := &writing{walk: walkOf(g)}
	first := g.Rules[0].Part
	if !w.has(first, v) {
		return "", api.ErrValue
	}
	w.writeAll(first, v)
	if len(w.bytes) > most {
		return "", api.ErrFull
	}
	if w.tooWide {
		return "", api.ErrWidth
	}
	w.putSums()
	return string(w.bytes), api.OK
}

// writeAll writes the main bytes, and what waits, as long as anything does.
func (w *writing) writeAll(p *syntax.Part, v *values.Value) {
	w.writePiece(p, v, nil)
	for len(w.waiting) > 0 {
		next := w.waiting[0]
		w.waiting = w.waiting[1:]
		w.tell(next.place, len(w.bytes))
		w.writePiece(next.part, next.value, next.hidden)
	}
}

// writePiece writes a part whose sums are a list of their own.
func (w *writing) writePiece(p *syntax.Part, v *values.Value, hidden *hiddenPlaces) {
	w.sums = append(w.sums, nil)
	w.write(p, v, hidden)
}

// write writes any part.
func (w *writing) write(p *syntax.Part, v *values.Value, hidden *hiddenPlaces) {
	w.doings[p.Kind].written(w, p, v, hidden)
}

// space adds so many noughts, and answers them.
func (w *writing) space(width int) []byte {
	from := len(w.bytes)
	w.bytes = append(w.bytes, make([]byte, width)...)
	return w.bytes[from:]
}

// tell makes a hidden number what it tells. One that is too great is only
// noted, as more bytes than may be are told ahead of it.
func (w *writing) tell(h hiddenPlace, n int) {
	w.tooWide = w.tooWide || !isWithin(uint64(n), h.width)
	w.put(h, uint32(n))
}

func (w *writing) put(h hiddenPlace, n uint32) {
	h.put(w.bytes[h.place:h.place+h.width], n)
}

// sum notes a sum, which is worked out when all other bytes are what they are.
func (w *writing) sum(s summed) {
	last := len(w.sums) - 1
	w.sums[last] = append(w.sums[last], s)
}

// putSums begins with the last of what waited: its sums may stand in bytes
// that were written ahead of it, but none stands in bytes behind it.
func (w *writing) putSums() {
	for _, sums := range slices.Backward(w.sums) {
		for _, s := range sums {
			w.put(s.hidden, sumOf(string(w.bytes[s.from:s.to]), s.hidden.width))
		}
	}
}
