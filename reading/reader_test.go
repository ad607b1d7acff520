package reading

import (
	"fmt"
	"testing"
)

func TestTake(t *testing.T) {
	r := &Reader{Text: "ab"}
	for i, c := range []struct {
		first, last byte
		want        byte
		ok          bool
		place       int
	}{
		{'b', 'z', 0, false, 0}, {'A', 'Z', 0, false, 0}, {'a', 'a', 'a', true, 1}, {'a', 'b', 'b', true, 2}, {0, 255, 0, false, 2},
	} {
		if got, ok := r.Take(c.first, c.last); got != c.want || ok != c.ok || r.Place != c.place {
			t.Errorf("%d: %q, %t, at %d, want %q, %t, at %d", i, got, ok, r.Place, c.want, c.ok, c.place)
		}
	}
	if !r.AtEnd() || r.TakeJust('b') {
		t.Error("there is a byte behind the last")
	}
}

func TestTwoDigits(t *testing.T) {
	for b := range 256 {
		r := &Reader{Text: fmt.Sprintf("%02x", b)}
		if got, ok := r.TwoDigits(); got != byte(b) || !ok || !r.AtEnd() {
			t.Errorf("%s: %d, %t, at %d", r.Text, got, ok, r.Place)
		}
	}
	for text, place := range map[string]int{
		"": 0, "0": 1, "g0": 0, "0g": 1, "A0": 0, "0A": 1, "/0": 0, "0/": 1, ":0": 0, "0:": 1, "`0": 0, "0`": 1, "\xff": 0,
	} {
		r := &Reader{Text: text}
		if _, ok := r.TwoDigits(); ok || r.Place != place {
			t.Errorf("%q: %t, at %d, want %d", text, ok, r.Place, place)
		}
	}
}
