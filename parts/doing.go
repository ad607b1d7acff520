// Package parts goes a grammar's parts both ways: it tries them at bytes, and
// writes their bytes from values.
package parts

import (
	"press/syntax"
	"press/values"
)

// doing is what the parts of one kind do.
type doing struct {
	// tried tries a part at a spot. If it fits, it answers the part's value, if
	// it has one, and the place behind its bytes.
	tried func(t *trial, p *syntax.Part, s spot) (*values.Value, int, bool)

	// has tells whether a value is of a part.
	has func(w *walk, p *syntax.Part, v *values.Value) bool

	// written writes the bytes of a part with a value that is of it; hidden are
	// the places of the hidden numbers of the struct in which the part stands.
	written func(w *writing, p *syntax.Part, v *values.Value, hidden *hiddenPlaces)
}

func doings() [syntax.Kinds]doing {
	return [syntax.Kinds]doing{
		syntax.NumberPart:    {tried: tryNumber, has: hasNumber, written: writeNumber},
		syntax.LowNumberPart: {tried: tryLowNumber, has: hasNumber, written: writeLowNumber},
		syntax.FixedPart:     {tried: tryFixed, has: hasNothing, written: writeFixed},
		syntax.StructPart:    {tried: tryStruct, has: hasStruct, written: writeStruct},
		syntax.ChoicePart:    {tried: tryChoice, has: hasChoice, written: writeChoice},
		syntax.ManyPart:      {tried: tryMany, has: hasList, written: writeMany},
		syntax.RulePart:      {tried: tryRule, has: hasOfRule, written: writeRule},
		syntax.HiddenPart:    {tried: tryHidden, has: hasNone, written: writeHidden},
		syntax.LowHiddenPart: {tried: tryLowHidden, has: hasNone, written: writeLowHidden},
		syntax.RunPart:       {tried: tryRun, has: hasRun, written: writeRun},
		syntax.TimesPart:     {tried: tryTimes, has: hasList, written: writeTimes},
		syntax.WindowPart:    {tried: tryWindow, has: hasOfInner, written: writeWindow},
		syntax.AtPart:        {tried: tryAt, has: hasOfInner, written: writeAt},
		syntax.SummedPart:    {tried: trySummed, has: hasOfInner, written: writeSummed},
		syntax.RestPart:      {tried: tryRest, has: hasRun, written: writeRest},
	}
}

// walk is a grammar that is gone one way or the other.
type walk struct {
	doings  [syntax.Kinds]doing
	grammar *syntax.Grammar
}

func walkOf(g *syntax.Grammar) walk {
	return walk{doings(), g}
}

// has tells of any part whether a value is of it.
func (w *walk) has(p *syntax.Part, v *values.Value) bool {
	return w.doings[p.Kind].has(w, p, v)
}
