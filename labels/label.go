// Package labels packs lists of names, in which an ending that stood before is
// not written again, and unpacks them.
package labels

import (
	"strings"

	"press/api"
)

// firstPointer is the lowest first byte of a pointer.
const firstPointer = 192

// isName also refuses the empty text: it has one label, of no bytes.
func isName(text string) bool {
	if len(text) > api.MaxName {
		return false
	}
	for _, label := range strings.Split(text, ".") {
		if !isLabel(label) {
			return false
		}
	}
	return true
}

func isLabel(text string) bool {
	if len(text) < 1 || len(text) > api.MaxLabel {
		return false
	}
	for _, b := range []byte(text) {
		if !isOfLabels(b) {
			return false
		}
	}
	return true
}

// isOfLabels tells whether a byte may stand in a label.
func isOfLabels(b byte) bool {
	return 'a' <= b && b <= 'z' || '0' <= b && b <= '9'
}
