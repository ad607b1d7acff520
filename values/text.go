package values

import (
	"strconv"
	"strings"
)

const digits = "0123456789abcdef"

// Text writes a value as a tree.
func (v *Value) Text() string {
	var text strings.Builder
	v.write(&text)
	return text.String()
}

func (v *Value) write(text *strings.Builder) {
	switch v.Kind {
	case Number:
		text.WriteString(strconv.FormatUint(uint64(v.Number), 10))
	case Nothing:
		text.WriteByte('-')
	case Run:
		writeRun(text, v.Run)
	case Struct:
		writeBetween(text, '(', v.Values, ')')
	case List:
		writeBetween(text, '[', v.Values, ']')
	case Choice:
		text.WriteByte('/')
		text.WriteByte(digits[v.Number])
		text.WriteByte(' ')
		v.Values[0].write(text)
	}
}

func writeRun(text *strings.Builder, run string) {
	text.WriteByte('"')
	for _, b := range []byte(run) {
		text.WriteByte(digits[b>>4])
		text.WriteByte(digits[b&15])
	}
	text.WriteByte('"')
}

func writeBetween(text *strings.Builder, opening byte, values []*Value, closing byte) {
	text.WriteByte(opening)
	for i, v := range values {
		if i > 0 {
			text.WriteByte(' ')
		}
		v.write(text)
	}
	text.WriteByte(closing)
}
