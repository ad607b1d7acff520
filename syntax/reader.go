package syntax

import (
	"press/api"
	"press/reading"
)

// reader reads a grammar's text.
type reader struct {
	reading.Reader
}

func (r *reader) rules() ([]Rule, bool) {
	var rules []Rule
	last := byte(firstRule)
	for {
		rule, ok := r.rule(last)
		if !ok {
			return nil, false
		}
		rules = append(rules, rule)
		if r.AtEnd() {
			return rules, true
		}
		if len(rules) == api.MaxRules || !r.TakeJust(';') {
			return nil, false
		}
		last = lastRule
	}
}

// rule reads a rule whose letter is none behind last.
func (r *reader) rule(last byte) (Rule, bool) {
	rule := Rule{Place: r.Place}
	letter, ok := r.Take(firstRule, last)
	if !ok || !r.TakeJust('=') {
		return rule, false
	}
	rule.Number = int(letter - firstRule)
	rule.Part, ok = r.part()
	return rule, ok
}

func (r *reader) part() (*Part, bool) {
	if r.AtEnd() {
		return nil, false
	}
	sign := r.Text[r.Place]
	kind, ok := kindOf(sign)
	if !ok {
		return nil, false
	}
	p := &Part{Kind: kind, Place: r.Place}
	r.Place++
	if kind == RulePart {
		p.Rule = int(sign - firstRule)
	}
	return p, r.tail(p, shapes[kind])
}

// tail reads what stands behind a part's first byte.
func (r *reader) tail(p *Part, s shape) bool {
	if s.width && !r.width(p) {
		return false
	}
	if s.dependency && !r.dependency(p) {
		return false
	}
	if s.value && !r.value(p) {
		return false
	}
	if s.parts == upToBracket {
		return r.partsUpToBracket(p)
	}
	for range s.parts {
		if !r.innerPart(p) {
			return false
		}
	}
	return true
}

func (r *reader) width(p *Part) bool {
	digit, ok := r.Take('1', '4')
	p.Width = int(digit - '0')
	return ok
}

func (r *reader) dependency(p *Part) bool {
	p.DependencyPlace = r.Place
	letter, ok := r.Take(firstDependency, lastDependency)
	p.Dependency = int(letter - firstDependency)
	return ok
}

func (r *reader) value(p *Part) bool {
	var ok bool
	p.Value, ok = r.TwoDigits()
	return ok
}

func (r *reader) innerPart(p *Part) bool {
	inner, ok := r.part()
	p.Parts = append(p.Parts, inner)
	return ok
}

func (r *reader) partsUpToBracket(p *Part) bool {
	for {
		if !r.innerPart(p) {
			return false
		}
		inner := p.Parts[len(p.Parts)-1]
		inner.Silent = inner.Kind.isSilent()
		if r.TakeJust(')') {
			return true
		}
	}
}
