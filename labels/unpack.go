package labels

import (
	"press/api"
	"press/reading"
)

// reader reads packed names.
type reader struct {
	reading.Reader
}

// Unpack reads names up to the bytes' end, or tells the error and its place.
func Unpack(bytes string) ([]string, api.Errno, int) {
	if len(bytes) > api.MaxBytes {
		return nil, api.ErrLong, 0
	}
	r := &reader{reading.Reader{Text: bytes}}
	var names []string
	for !r.AtEnd() {
		began := r.Place
		name, ok := r.name()
		if !ok || len(names) == api.MaxNames {
			return nil, api.ErrName, began
		}
		names = append(names, name)
	}
	return names, api.OK, 0
}

func (r *reader) name() (string, bool) {
	name, ok := r.ending(nil)
	if !ok || len(name) < 1 || len(name) > api.MaxName {
		return "", false
	}
	return string(name), true
}

// ending reads labels up to the name's end and adds them to what stands ahead
// of them. It begins where the name does, or where a pointer led: below that
// place the next pointer must lead.
func (r *reader) ending(name []byte) ([]byte, bool) {
	began := r.Place
	for !r.TakeJust(0) {
		if high, ok := r.Take(firstPointer, 255); ok {
			return r.led(high, began, name)
		}
		label, ok := r.label()
		if !ok {
			return nil, false
		}
		if len(name) > 0 {
			name = append(name, '.')
		}
		name = append(name, label...)
	}
	return name, true
}

// led goes on where a pointer leads, of which the first byte was read. A reader
// of its own goes there, so that this one stays behind the pointer.
func (r *reader) led(high byte, below int, name []byte) ([]byte, bool) {
	low, ok := r.Take(0, 255)
	if !ok {
		return nil, false
	}
	place := int(high-firstPointer)*256 + int(low)
	if place >= below {
		return nil, false
	}
	there := &reader{reading.Reader{Text: r.Text, Place: place}}
	return there.ending(name)
}

func (r *reader) label() (string, bool) {
	length, ok := r.Take(1, api.MaxLabel)
	if !ok {
		return "", false
	}
	began := r.Place
	behind := began + int(length)
	if behind > len(r.Text) || !isLabel(r.Text[began:behind]) {
		return "", false
	}
	r.Place = behind
	return r.Text[began:behind], true
}
