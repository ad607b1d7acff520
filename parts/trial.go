package parts

import (
	"slices"

	"press/api"
	"press/syntax"
	"press/values"
)

// RunOut is what the trying of parts panics with when the fuel or the values
// run out: it is deep inside then, and nothing on the way up has a say in it.
type RunOut struct {
	Errno api.Errno
}

// trial is bytes at which a grammar's parts are being tried.
type trial struct {
	walk
	bytes  string
	fuel   int    // how many more parts may be tried
	nodes  int    // how many more values may be made
	read   []bool // of each byte, whether it was read
	spans  []span // what was read, in the order of reading, so that it can be undone
	failed int    // the greatest place at which a part failed
}

// span is the bytes from a place up to another.
type span struct {
	from, to int
}

// spot is where a part is tried.
type spot struct {
	place  int
	end    int            // the window's end
	hidden *hiddenNumbers // those of the struct in which the part stands
}

// hiddenNumbers are the hidden numbers of a struct that were read so far.
type hiddenNumbers [syntax.Dependencies]hiddenNumber

// hiddenNumber is a hidden number and how many bytes it has.
type hiddenNumber struct {
	number uint32
	width  int
}

// Parse tries the first rule's part at bytes, and tells its value, or the error
// and its place. It panics with a RunOut when the fuel or the values run out.
func Parse(g *syntax.Grammar, bytes string, fuel, nodes int) (*values.Value, api.Errno, int) {
	t := &trial{
		walk:  walkOf(g),
		bytes: bytes,
		fuel:  fuel,
		nodes: nodes,
		read:  make([]bool, len(bytes)),
	}
	v, _, fits := t.try(g.Rules[0].Part, spot{end: len(bytes)})
	if !fits {
		return nil, api.ErrSyntax, t.failed
	}
	if unread := slices.Index(t.read, false); unread >= 0 {
		return nil, api.ErrSyntax, unread
	}
	return v, api.OK, 0
}

// try tries any part.
func (t *trial) try(p *syntax.Part, s spot) (*values.Value, int, bool) {
	if t.fuel == 0 {
		panic(RunOut{api.ErrFuel})
	}
	t.fuel--
	return t.doings[p.Kind].tried(t, p, s)
}

// fail is the answer of a part that fails at a place.
func (t *trial) fail(place int) (*values.Value, int, bool) {
	t.failed = max(t.failed, place)
	return nil, 0, false
}

// made counts a value that is made.
func (t *trial) made(v values.Value) *values.Value {
	if t.nodes == 0 {
		panic(RunOut{api.ErrNodes})
	}
	t.nodes--
	return &v
}

// readOn reads the next bytes, if there are so many in the window that were not read.
func (t *trial) readOn(s spot, length uint32) (string, bool) {
	if length > uint32(s.end-s.place) {
		return "", false
	}
	next := span{s.place, s.place + int(length)}
	if slices.Contains(t.read[next.from:next.to], true) {
		return "", false
	}
	t.setRead(next, true)
	t.spans = append(t.spans, next)
	return t.bytes[next.from:next.to], true
}

func (t *trial) setRead(s span, read bool) {
	for i := s.from; i < s.to; i++ {
		t.read[i] = read
	}
}

// mark is how much was read and made at some time.
type mark struct {
	spans int
	nodes int
}

func (t *trial) mark() mark {
	return mark{len(t.spans), t.nodes}
}

// undo makes all that was read and made since a mark not read and gone.
func (t *trial) undo(m mark) {
	for _, s := range t.spans[m.spans:] {
		t.setRead(s, false)
	}
	t.spans = t.spans[:m.spans]
	t.nodes = m.nodes
}
