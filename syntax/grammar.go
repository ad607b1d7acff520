package syntax

import (
	"press/api"
	"press/reading"
)

const (
	firstRule       = 'A'
	lastRule        = firstRule + api.MaxRules - 1
	firstDependency = 'a'
	lastDependency  = 'h'

	// Dependencies is how many letters there are for a dependency.
	Dependencies = lastDependency - firstDependency + 1
)

// Grammar is a grammar's rules, in the order of its text.
type Grammar struct {
	Rules []Rule
}

// Rule is one rule: its number (0 for A), the place of its letter, its part.
type Rule struct {
	Number int
	Place  int
	Part   *Part
}

// Part is one part. A field that its kind does not have is 0.
type Part struct {
	Kind            Kind
	Place           int // of its first byte
	Width           int // W
	Dependency      int // the number of d, 0 for a
	DependencyPlace int
	Value           byte    // the byte of a fixed part
	Rule            int     // the number of the rule that a rule part names
	Silent          bool    // a struct's part itself that has no value there
	Parts           []*Part // the parts that it holds
}

// PartOf is the part of the rule with this number, nil if there is no such rule.
func (g *Grammar) PartOf(rule int) *Part {
	for _, r := range g.Rules {
		if r.Number == rule {
			return r.Part
		}
	}
	return nil
}

// Read makes a grammar of its text, or tells the error and its place.
func Read(text string) (*Grammar, api.Errno, int) {
	if len(text) > api.MaxGrammar {
		return nil, api.ErrLong, 0
	}
	r := &reader{reading.Reader{Text: text}}
	rules, ok := r.rules()
	if !ok {
		return nil, api.ErrForm, r.Place
	}
	g := &Grammar{Rules: rules}
	if place, found := g.wrongRule(); found {
		return nil, api.ErrRule, place
	}
	if place, found := g.wrongDependency(); found {
		return nil, api.ErrBound, place
	}
	return g, api.OK, 0
}
