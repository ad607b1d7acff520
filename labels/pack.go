package labels

import (
	"strings"

	"press/api"
)

// packing is names that are being packed.
type packing struct {
	bytes  []byte
	places map[string]int // of each ending that was written, the place of its first label
}

// Pack writes the bytes of names, or tells the error.
func Pack(names []string) (string, api.Errno) {
	if len(names) > api.MaxNames {
		return "", api.ErrLong
	}
	for _, name := range names {
		if !isName(name) {
			return "", api.ErrName
		}
	}
	p := &packing{places: map[string]int{}}
	for _, name := range names {
		p.pack(name)
	}
	return string(p.bytes), api.OK
}

// pack writes a name's labels up to an ending that was written before. As
// nothing but a pointer is written then, no ending has two places.
func (p *packing) pack(name string) {
	ending, more := name, true
	for more {
		if place, ok := p.places[ending]; ok {
			p.point(place)
			return
		}
		p.places[ending] = len(p.bytes)
		var label string
		label, ending, more = strings.Cut(ending, ".")
		p.write(label)
	}
	p.bytes = append(p.bytes, 0)
}

func (p *packing) write(label string) {
	p.bytes = append(p.bytes, byte(len(label)))
	p.bytes = append(p.bytes, label...)
}

// point writes a pointer; its place fits, as the longest names that there may
// be take less than a sixth of what a pointer reaches.
func (p *packing) point(place int) {
	p.bytes = append(p.bytes, byte(firstPointer+place/256), byte(place%256))
}
