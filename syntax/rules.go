package syntax

import "press/api"

// wrongRule finds the first letter of a rule that cannot be.
func (g *Grammar) wrongRule() (int, bool) {
	var there, passed [api.MaxRules]bool
	for _, rule := range g.Rules {
		there[rule.Number] = true
	}
	for _, rule := range g.Rules {
		if passed[rule.Number] {
			return rule.Place, true
		}
		passed[rule.Number] = true
		if place, found := rule.Part.wrongRule(there); found {
			return place, true
		}
	}
	return 0, false
}

func (p *Part) wrongRule(there [api.MaxRules]bool) (int, bool) {
	if p.Kind == RulePart && !there[p.Rule] {
		return p.Place, true
	}
	for _, inner := range p.Parts {
		if place, found := inner.wrongRule(there); found {
			return place, true
		}
	}
	return 0, false
}
