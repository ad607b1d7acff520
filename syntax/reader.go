package syntax

import "press/api"

// reader goes through a text byte by byte. It never goes past a byte that
// cannot stand, so that after a refusal its place is the one to be told.
type reader struct {
	text  string
	place int
}

func (r *reader) atEnd() bool {
	return r.place == len(r.text)
}

// take goes past the next byte, if there is one between first and last.
func (r *reader) take(first, last byte) (byte, bool) {
	if r.atEnd() {
		return 0, false
	}
	b := r.text[r.place]
	if b < first || b > last {
		return 0, false
	}
	r.place++
	return b, true
}

func (r *reader) takeJust(b byte) bool {
	_, ok := r.take(b, b)
	return ok
}

func (r *reader) rules() ([]Rule, bool) {
	var rules []Rule
	last := byte(firstRule)
	for {
		rule, ok := r.rule(last)
		if !ok {
			return nil, false
		}
		rules = append(rules, rule)
		if r.atEnd() {
			return rules, true
		}
		if len(rules) == api.MaxRules || !r.takeJust(';') {
			return nil, false
		}
		last = lastRule
	}
}

// rule reads a rule whose letter is none behind last.
func (r *reader) rule(last byte) (Rule, bool) {
	rule := Rule{Place: r.place}
	letter, ok := r.take(firstRule, last)
	if !ok || !r.takeJust('=') {
		return rule, false
	}
	rule.Number = int(letter - firstRule)
	rule.Part, ok = r.part()
	return rule, ok
}

func (r *reader) part() (*Part, bool) {
	if r.atEnd() {
		return nil, false
	}
	sign := r.text[r.place]
	kind, ok := kindOf(sign)
	if !ok {
		return nil, false
	}
	p := &Part{Kind: kind, Place: r.place}
	r.place++
	if kind == RulePart {
		p.Rule = int(sign - firstRule)
	}
	return p, r.tail(p, shapes[kind])
}

// tail reads what stands behind a part's first byte.
func (r *reader) tail(p *Part, s shape) bool {
	if s.width && !r.width(p) {
		return false
	}
	if s.dependency && !r.dependency(p) {
		return false
	}
	if s.value && !r.value(p) {
		return false
	}
	if s.parts == upToBracket {
		return r.partsUpToBracket(p)
	}
	for range s.parts {
		if !r.innerPart(p) {
			return false
		}
	}
	return true
}

func (r *reader) width(p *Part) bool {
	digit, ok := r.take('1', '4')
	p.Width = int(digit - '0')
	return ok
}

func (r *reader) dependency(p *Part) bool {
	p.DependencyPlace = r.place
	letter, ok := r.take(firstDependency, lastDependency)
	p.Dependency = int(letter - firstDependency)
	return ok
}

func (r *reader) value(p *Part) bool {
	high, ok := r.digit()
	if !ok {
		return false
	}
	low, ok := r.digit()
	p.Value = high*16 + low
	return ok
}

// digit reads a digit to the base 16; great letters are none.
func (r *reader) digit() (byte, bool) {
	if b, ok := r.take('0', '9'); ok {
		return b - '0', true
	}
	b, ok := r.take('a', 'f')
	return b - 'a' + 10, ok
}

func (r *reader) innerPart(p *Part) bool {
	inner, ok := r.part()
	p.Parts = append(p.Parts, inner)
	return ok
}

func (r *reader) partsUpToBracket(p *Part) bool {
	for {
		if !r.innerPart(p) {
			return false
		}
		inner := p.Parts[len(p.Parts)-1]
		inner.Silent = inner.Kind.isSilent()
		if r.takeJust(')') {
			return true
		}
	}
}
