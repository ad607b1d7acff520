package labels

import (
	"strings"
	"testing"
)

const ofLabels = "abcdefghijklmnopqrstuvwxyz0123456789"

func TestIsOfLabels(t *testing.T) {
	for b := range 256 {
		if want := strings.IndexByte(ofLabels, byte(b)) >= 0; isOfLabels(byte(b)) != want {
			t.Errorf("the byte %d: %t", b, !want)
		}
	}
}

func TestIsLabel(t *testing.T) {
	for _, text := range []string{"a", "0", "z9", "0123456789abcde", ofLabels[:15], ofLabels[21:]} {
		if !isLabel(text) {
			t.Errorf("%q is a label", text)
		}
	}
	for _, text := range []string{"", ".", "a.b", "A", "a\x00", " a", "é", "0123456789abcdef", strings.Repeat("a", 256)} {
		if isLabel(text) {
			t.Errorf("%q is no label", text)
		}
	}
}

func TestIsName(t *testing.T) {
	full := strings.Repeat("0123456789abcde.", 3) + "012345678901"
	for _, text := range []string{"a", "a.b", "a.a.a", "0", "00.a9", full, strings.Repeat("a.", 29) + "bc"} {
		if !isName(text) {
			t.Errorf("%q is a name", text)
		}
	}
	for _, text := range []string{
		"", ".", "..", "a.", ".a", "a..b", "a.b.", "A", "a.B", "a b", "a-b", "a\x00", "é", "0123456789abcdef", "a.0123456789abcdef",
		full + "3", strings.Repeat("a.", 30) + "a", strings.Repeat("a.", 30), strings.Repeat("a", 1000000),
	} {
		if isName(text) {
			t.Errorf("%.80q is no name", text)
		}
	}
}
