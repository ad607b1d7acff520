// Package parts goes a grammar's parts: it tries them at bytes.
package parts

import (
	"press/syntax"
	"press/values"
)

// doing is what the parts of one kind do.
type doing struct {
	// tried tries a part at a spot. If it fits, it answers the part's value, if
	// it has one, and the place behind its bytes.
	tried func(t *trial, p *syntax.Part, s spot) (*values.Value, int, bool)
}

func doings() [syntax.Kinds]doing {
	return [syntax.Kinds]doing{
		syntax.NumberPart:    {tried: tryNumber},
		syntax.LowNumberPart: {tried: tryLowNumber},
		syntax.FixedPart:     {tried: tryFixed},
		syntax.StructPart:    {tried: tryStruct},
		syntax.ChoicePart:    {tried: tryChoice},
		syntax.ManyPart:      {tried: tryMany},
		syntax.RulePart:      {tried: tryRule},
		syntax.HiddenPart:    {tried: tryHidden},
		syntax.LowHiddenPart: {tried: tryLowHidden},
		syntax.RunPart:       {tried: tryRun},
		syntax.TimesPart:     {tried: tryTimes},
		syntax.WindowPart:    {tried: tryWindow},
		syntax.AtPart:        {tried: tryAt},
		syntax.SummedPart:    {tried: trySummed},
		syntax.RestPart:      {tried: tryRest},
	}
}
