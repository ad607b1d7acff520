package parts

import (
	"press/api"
	"press/syntax"
	"press/values"
)

func hasNumber(w *walk, p *syntax.Part, v *values.Value) bool {
	return v.Kind == values.Number && isWithin(uint64(v.Number), p.Width)
}

func hasNothing(w *walk, p *syntax.Part, v *values.Value) bool {
	return v.Kind == values.Nothing
}

func hasRun(w *walk, p *syntax.Part, v *values.Value) bool {
	return v.Kind == values.Run
}

// hasNone: a hidden number is in no tree.
func hasNone(w *walk, p *syntax.Part, v *values.Value) bool {
	return false
}

func hasStruct(w *walk, p *syntax.Part, v *values.Value) bool {
	if v.Kind != values.Struct {
		return false
	}
	inner := v.Values
	for _, part := range p.Parts {
		if part.Silent {
			continue
		}
		if len(inner) == 0 || !w.has(part, inner[0]) {
			return false
		}
		inner = inner[1:]
	}
	return len(inner) == 0
}

func hasChoice(w *walk, p *syntax.Part, v *values.Value) bool {
	return v.Kind == values.Choice && w.has(p.Parts[v.Number], v.Values[0])
}

func hasList(w *walk, p *syntax.Part, v *values.Value) bool {
	if v.Kind != values.List {
		return false
	}
	for _, inner := range v.Values {
		if !w.has(p.Parts[0], inner) {
			return false
		}
	}
	return true
}

// hasOfRule: where there are no more than so many rules, more steps from rule
// to rule lead round and round, and to no value.
func hasOfRule(w *walk, p *syntax.Part, v *values.Value) bool {
	for range api.MaxRules {
		p = w.grammar.PartOf(p.Rule)
		if p.Kind != syntax.RulePart {
			return w.has(p, v)
		}
	}
	return false
}

func hasOfInner(w *walk, p *syntax.Part, v *values.Value) bool {
	return w.has(p.Parts[0], v)
}
