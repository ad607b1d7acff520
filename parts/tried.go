package parts

import (
	"press/syntax"
	"press/values"
)

func tryNumber(t *trial, p *syntax.Part, s spot) (*values.Value, int, bool) {
	return tryOrdered(t, p, s, highestFirst)
}

func tryLowNumber(t *trial, p *syntax.Part, s spot) (*values.Value, int, bool) {
	return tryOrdered(t, p, s, lowestFirst)
}

func tryOrdered(t *trial, p *syntax.Part, s spot, numberOf func(string) uint32) (*values.Value, int, bool) {
	bytes, ok := t.readOn(s, uint32(p.Width))
	if !ok {
		return t.fail(s.place)
	}
	v := t.made(values.Value{Kind: values.Number, Number: numberOf(bytes)})
	return v, s.place + p.Width, true
}

func tryFixed(t *trial, p *syntax.Part, s spot) (*values.Value, int, bool) {
	bytes, ok := t.readOn(s, 1)
	if !ok || bytes[0] != p.Value {
		return t.fail(s.place)
	}
	if p.Silent {
		return nil, s.place + 1, true
	}
	return t.made(values.Value{Kind: values.Nothing}), s.place + 1, true
}

func tryStruct(t *trial, p *syntax.Part, s spot) (*values.Value, int, bool) {
	s.hidden = &hiddenNumbers{}
	var inner []*values.Value
	for _, part := range p.Parts {
		v, behind, ok := t.try(part, s)
		if !ok {
			return nil, 0, false
		}
		if !part.Silent {
			inner = append(inner, v)
		}
		s.place = behind
	}
	return t.made(values.Value{Kind: values.Struct, Values: inner}), s.place, true
}

func tryChoice(t *trial, p *syntax.Part, s spot) (*values.Value, int, bool) {
	before := t.mark()
	for which, part := range p.Parts {
		if v, behind, ok := t.try(part, s); ok {
			chosen := values.Value{Kind: values.Choice, Number: uint32(which), Values: []*values.Value{v}}
			return t.made(chosen), behind, true
		}
		t.undo(before)
	}
	return nil, 0, false
}

func tryMany(t *trial, p *syntax.Part, s spot) (*values.Value, int, bool) {
	var inner []*values.Value
	for {
		before := t.mark()
		v, behind, ok := t.try(p.Parts[0], s)
		if !ok || behind == s.place {
			t.undo(before)
			return t.made(values.Value{Kind: values.List, Values: inner}), s.place, true
		}
		inner = append(inner, v)
		s.place = behind
	}
}

func tryRule(t *trial, p *syntax.Part, s spot) (*values.Value, int, bool) {
	return t.try(t.grammar.PartOf(p.Rule), s)
}

func tryHidden(t *trial, p *syntax.Part, s spot) (*values.Value, int, bool) {
	return tryHiddenOrdered(t, p, s, highestFirst)
}

func tryLowHidden(t *trial, p *syntax.Part, s spot) (*values.Value, int, bool) {
	return tryHiddenOrdered(t, p, s, lowestFirst)
}

func tryHiddenOrdered(t *trial, p *syntax.Part, s spot, numberOf func(string) uint32) (*values.Value, int, bool) {
	bytes, ok := t.readOn(s, uint32(p.Width))
	if !ok {
		return t.fail(s.place)
	}
	s.hidden[p.Dependency] = hiddenNumber{numberOf(bytes), p.Width}
	return nil, s.place + p.Width, true
}

func tryRun(t *trial, p *syntax.Part, s spot) (*values.Value, int, bool) {
	return tryBytes(t, s, s.hidden[p.Dependency].number)
}

func tryRest(t *trial, p *syntax.Part, s spot) (*values.Value, int, bool) {
	return tryBytes(t, s, uint32(s.end-s.place))
}

func tryBytes(t *trial, s spot, length uint32) (*values.Value, int, bool) {
	bytes, ok := t.readOn(s, length)
	if !ok {
		return t.fail(s.place)
	}
	return t.made(values.Value{Kind: values.Run, Run: bytes}), s.place + len(bytes), true
}

func tryTimes(t *trial, p *syntax.Part, s spot) (*values.Value, int, bool) {
	var inner []*values.Value
	for range s.hidden[p.Dependency].number {
		v, behind, ok := t.try(p.Parts[0], s)
		if !ok {
			return nil, 0, false
		}
		inner = append(inner, v)
		s.place = behind
	}
	return t.made(values.Value{Kind: values.List, Values: inner}), s.place, true
}

func tryWindow(t *trial, p *syntax.Part, s spot) (*values.Value, int, bool) {
	length := s.hidden[p.Dependency].number
	if length > uint32(s.end-s.place) {
		return t.fail(s.place)
	}
	s.end = s.place + int(length)
	v, behind, ok := t.try(p.Parts[0], s)
	if ok && behind != s.end {
		return t.fail(behind)
	}
	return v, behind, ok
}

func tryAt(t *trial, p *syntax.Part, s spot) (*values.Value, int, bool) {
	place := s.hidden[p.Dependency].number
	if place > uint32(len(t.bytes)) {
		return t.fail(s.place)
	}
	v, _, ok := t.try(p.Parts[0], spot{place: int(place), end: len(t.bytes), hidden: s.hidden})
	return v, s.place, ok
}

func trySummed(t *trial, p *syntax.Part, s spot) (*values.Value, int, bool) {
	v, behind, ok := t.try(p.Parts[0], s)
	if !ok {
		return nil, 0, false
	}
	told := s.hidden[p.Dependency]
	if told.number != sumOf(t.bytes[s.place:behind], told.width) {
		return t.fail(s.place)
	}
	return v, behind, true
}
