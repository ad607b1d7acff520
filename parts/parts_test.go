package parts

import (
	"strings"
	"testing"

	"press/api"
	"press/syntax"
)

func TestNumbers(t *testing.T) {
	for bytes, want := range map[string][2]uint32{
		"": {0, 0}, "\x07": {7, 7}, "\x01\x02": {258, 513}, "\x01\x02\x03": {66051, 197121},
		"\x80\x00\x00\x01": {0x80000001, 0x01000080}, "\xff\xff\xff\xff": {4294967295, 4294967295},
	} {
		if high, low := highestFirst(bytes), lowestFirst(bytes); high != want[0] || low != want[1] {
			t.Errorf("%q: %d and %d, want %d", bytes, high, low, want)
		}
		high, low := make([]byte, len(bytes)), make([]byte, len(bytes))
		putHighestFirst(high, want[0])
		putLowestFirst(low, want[1])
		if string(high) != bytes || string(low) != bytes {
			t.Errorf("%d: %q and %q, want %q", want, high, low, bytes)
		}
	}
}

func TestIsWithin(t *testing.T) {
	for width := 1; width <= 4; width++ {
		most := uint64(1)<<(8*width) - 1
		for n, want := range map[uint64]bool{0: true, most: true, most + 1: false, 1<<63 + 1: false} {
			if isWithin(n, width) != want {
				t.Errorf("%d bytes for %d: %t", width, n, !want)
			}
		}
	}
}

func TestSum(t *testing.T) {
	for _, c := range []struct {
		bytes string
		want  [4]uint32 // by a hidden part of 1 byte, of 2, 3 and 4
	}{
		{"", [4]uint32{}}, {"\x05", [4]uint32{5, 5, 5, 5}}, {"\x01\x01", [4]uint32{32, 32, 32, 32}},
		{"\xff\xff", [4]uint32{0xe0, 0x1fe0, 0x1fe0, 0x1fe0}}, {strings.Repeat("\xff", 6), [4]uint32{0xa0, 0xf7a0, 0xa4f7a0, 0xc1a4f7a0}},
		{strings.Repeat("\xff", 8), [4]uint32{0x80, 0xaf80, 0x45af80, 0xec45af80}},
	} {
		for i, want := range c.want {
			if got := sumOf(c.bytes, i+1); got != want {
				t.Errorf("the sum of %q by %d bytes: %x, want %x", c.bytes, i+1, got, want)
			}
		}
	}
}

func TestEachKindHasItsDoing(t *testing.T) {
	for kind, d := range doings() {
		if d.tried == nil || d.has == nil || d.written == nil {
			t.Errorf("kind %d: %v", kind, d)
		}
	}
}

// TestRunOut: the panics are of a type of the package's own.
func TestRunOut(t *testing.T) {
	g, _, _ := syntax.Read("A=n1")
	for _, c := range []struct {
		fuel, nodes int
		want        any
	}{
		{0, 1, RunOut{api.ErrFuel}}, {1, 0, RunOut{api.ErrNodes}}, {1, 1, nil},
	} {
		func() {
			defer func() {
				if r := recover(); r != c.want {
					t.Errorf("%d and %d: %v, want %v", c.fuel, c.nodes, r, c.want)
				}
			}()
			Parse(g, "a", c.fuel, c.nodes)
		}()
	}
}
