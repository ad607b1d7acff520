package syntax

// scope is what stood so far in one struct.
type scope struct {
	hidden [Dependencies]*Part // the first hidden part of each d
	used   [Dependencies]bool
}

// binder keeps the first wrong place. That a hidden part is used by none is
// known at its struct's end only, when a later place may be known already.
type binder struct {
	place int
	found bool
}

// wrongDependency finds the first d that is wrong.
func (g *Grammar) wrongDependency() (int, bool) {
	var b binder
	for _, rule := range g.Rules {
		b.walk(rule.Part, nil, nil)
	}
	return b.place, b.found
}

func (b *binder) wrong(p *Part) {
	if !b.found || p.DependencyPlace < b.place {
		b.place, b.found = p.DependencyPlace, true
	}
}

// walk looks at a part: own is the struct of which it is a part itself, around
// the one in which it stands, if there are such.
func (b *binder) walk(p *Part, own, around *scope) {
	switch {
	case p.Kind == StructPart:
		b.walkStruct(p)
		return
	case p.Kind.isHidden():
		b.hide(p, own)
	case p.Kind.usesDependency():
		b.use(p, around)
	}
	if !p.Kind.keepsStruct() {
		around = nil
	}
	for _, inner := range p.Parts {
		b.walk(inner, nil, around)
	}
}

func (b *binder) walkStruct(p *Part) {
	var s scope
	for _, inner := range p.Parts {
		b.walk(inner, &s, &s)
	}
	for d, hidden := range s.hidden {
		if hidden != nil && !s.used[d] {
			b.wrong(hidden)
		}
	}
}

func (b *binder) hide(p *Part, own *scope) {
	if own == nil || own.hidden[p.Dependency] != nil {
		b.wrong(p)
		return
	}
	own.hidden[p.Dependency] = p
}

func (b *binder) use(p *Part, around *scope) {
	if around == nil || around.hidden[p.Dependency] == nil || around.used[p.Dependency] {
		b.wrong(p)
		return
	}
	around.used[p.Dependency] = true
}
