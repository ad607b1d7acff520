// Package syntax reads the text of a grammar and tells what is wrong with it.
package syntax

// Kind says which of the document's parts a part is.
type Kind int

const (
	NumberPart Kind = iota
	LowNumberPart
	FixedPart
	StructPart
	ChoicePart
	ManyPart
	RulePart
	HiddenPart
	LowHiddenPart
	RunPart
	TimesPart
	WindowPart
	AtPart
	SummedPart
	RestPart
	Kinds // how many kinds there are
)

// upToBracket stands in a shape for one or more parts and the bracket that ends them.
const upToBracket = -1

// shape is how the parts of one kind are written, in the order of the fields.
type shape struct {
	first, last byte // the bytes with which they may begin
	width       bool // a digit W follows
	dependency  bool // a letter d follows
	value       bool // two digits to the base 16 follow
	parts       int  // how many parts follow
}

var shapes = [Kinds]shape{
	NumberPart:    {first: 'n', last: 'n', width: true},
	LowNumberPart: {first: 'l', last: 'l', width: true},
	FixedPart:     {first: '\'', last: '\'', value: true},
	StructPart:    {first: '(', last: '(', parts: upToBracket},
	ChoicePart:    {first: '/', last: '/', parts: 2},
	ManyPart:      {first: '*', last: '*', parts: 1},
	RulePart:      {first: firstRule, last: lastRule},
	HiddenPart:    {first: 'h', last: 'h', width: true, dependency: true},
	LowHiddenPart: {first: 'k', last: 'k', width: true, dependency: true},
	RunPart:       {first: 'r', last: 'r', dependency: true},
	TimesPart:     {first: 't', last: 't', dependency: true, parts: 1},
	WindowPart:    {first: 'w', last: 'w', dependency: true, parts: 1},
	AtPart:        {first: '@', last: '@', dependency: true, parts: 1},
	SummedPart:    {first: 's', last: 's', dependency: true, parts: 1},
	RestPart:      {first: '.', last: '.'},
}

// kindOf finds the kind of the parts that begin with a byte.
func kindOf(b byte) (Kind, bool) {
	for k, s := range shapes {
		if s.first <= b && b <= s.last {
			return Kind(k), true
		}
	}
	return 0, false
}

func (k Kind) isHidden() bool {
	return k == HiddenPart || k == LowHiddenPart
}

func (k Kind) usesDependency() bool {
	return shapes[k].dependency && !k.isHidden()
}

// isSilent: one of a struct's parts itself, if it is of such a kind, has no value there.
func (k Kind) isSilent() bool {
	return k == FixedPart || k.isHidden()
}

// keepsStruct: what such a part holds stands in the same struct as the part itself.
func (k Kind) keepsStruct() bool {
	return k == WindowPart || k == AtPart || k == SummedPart
}
