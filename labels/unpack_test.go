package labels

import (
	"testing"

	"press/reading"
)

// TestReaderStaysBehindTheName: wherever a pointer leads, the next name begins
// behind the pointer.
func TestReaderStaysBehindTheName(t *testing.T) {
	r := &reader{reading.Reader{Text: "\x01a\x01b\x00\x01c\xc0\x02\xc0\x05\x01d\x00"}}
	for _, c := range []struct {
		name   string
		behind int
	}{
		{"a.b", 5}, {"c.b", 9}, {"c.b", 11}, {"d", 14},
	} {
		if name, ok := r.name(); name != c.name || !ok || r.Place != c.behind {
			t.Errorf("%q, %t, up to %d, want %q, up to %d", name, ok, r.Place, c.name, c.behind)
		}
	}
}
