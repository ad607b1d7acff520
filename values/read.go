package values

import (
	"math"
	"strings"

	"press/api"
	"press/reading"
)

// reader reads a tree's text.
type reader struct {
	reading.Reader
}

// Read makes a value of its text, or tells the error and its place.
func Read(text string) (*Value, api.Errno, int) {
	if len(text) > api.MaxTree {
		return nil, api.ErrTree, 0
	}
	r := &reader{reading.Reader{Text: text}}
	v, ok := r.value()
	if !ok || !r.AtEnd() {
		return nil, api.ErrTree, r.Place
	}
	return v, api.OK, 0
}

func (r *reader) value() (*Value, bool) {
	switch {
	case r.TakeJust('-'):
		return &Value{Kind: Nothing}, true
	case r.TakeJust('"'):
		return r.run()
	case r.TakeJust('('):
		return r.between(Struct, ')')
	case r.TakeJust('['):
		return r.between(List, ']')
	case r.TakeJust('/'):
		return r.choice()
	}
	return r.number()
}

// number reads all of a number's digits, also where it is too great: the place
// behind them is then the one to be told.
func (r *reader) number() (*Value, bool) {
	if r.TakeJust('0') {
		return &Value{Kind: Number}, true
	}
	digit, ok := r.Take('1', '9')
	if !ok {
		return nil, false
	}
	var n uint64
	for ; ok; digit, ok = r.Take('0', '9') {
		n = min(n*10+uint64(digit-'0'), math.MaxUint32+1)
	}
	if n > math.MaxUint32 {
		return nil, false
	}
	return &Value{Kind: Number, Number: uint32(n)}, true
}

// run reads a run behind its first sign, up to the one that ends it.
func (r *reader) run() (*Value, bool) {
	var run strings.Builder
	for !r.TakeJust('"') {
		b, ok := r.TwoDigits()
		if !ok {
			return nil, false
		}
		run.WriteByte(b)
	}
	return &Value{Kind: Run, Run: run.String()}, true
}

// between reads values behind an opening bracket, up to the closing one.
func (r *reader) between(kind Kind, closing byte) (*Value, bool) {
	v := &Value{Kind: kind}
	if r.TakeJust(closing) {
		return v, true
	}
	for {
		inner, ok := r.value()
		if !ok {
			return nil, false
		}
		v.Values = append(v.Values, inner)
		if r.TakeJust(closing) {
			return v, true
		}
		if !r.TakeJust(' ') {
			return nil, false
		}
	}
}

// choice reads a choice behind its first sign.
func (r *reader) choice() (*Value, bool) {
	which, ok := r.Take('0', '1')
	if !ok || !r.TakeJust(' ') {
		return nil, false
	}
	inner, ok := r.value()
	if !ok {
		return nil, false
	}
	return &Value{Kind: Choice, Number: uint32(which - '0'), Values: []*Value{inner}}, true
}
