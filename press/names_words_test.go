package press

import (
	"math/rand"
	"slices"
	"strings"
	"testing"

	"press/api"
)

// slowEnding is the labels of an ending, and the place at which it was written.
type slowEnding struct {
	labels []string
	place  int
}

// slowPack packs names by the document's words. It keeps every ending, and goes
// through all of them, label by label, from the first on.
func slowPack(names []string) string {
	var bytes string
	var written []slowEnding
	for _, name := range names {
		labels, pointer := strings.Split(name, "."), false
		for i := 0; i < len(labels) && !pointer; i++ {
			same := slices.IndexFunc(written, func(e slowEnding) bool { return slices.Equal(e.labels, labels[i:]) })
			if same >= 0 {
				place := written[same].place
				bytes += string([]byte{byte(192 + place/256), byte(place % 256)})
				pointer = true
				continue
			}
			written = append(written, slowEnding{labels[i:], len(bytes)})
			bytes += string([]byte{byte(len(labels[i]))}) + labels[i]
		}
		if !pointer {
			bytes += "\x00"
		}
	}
	return bytes
}

// slowName reads one name by the document's words, going on in one loop
// wherever a pointer leads.
func slowName(bytes string, began int) (name string, behind int, ok bool) {
	var labels []string
	place, bound := began, began
	for place < len(bytes) {
		switch b := int(bytes[place]); {
		case b == 0:
			name = strings.Join(labels, ".")
			if behind == 0 {
				behind = place + 1
			}
			return name, behind, len(labels) > 0 && len(name) <= 60
		case b <= 15 && place+1+b <= len(bytes):
			label := bytes[place+1 : place+1+b]
			if strings.Trim(label, "abcdefghijklmnopqrstuvwxyz0123456789") != "" {
				return "", 0, false
			}
			labels = append(labels, label)
			place += 1 + b
		case b >= 192 && place+1 < len(bytes):
			if behind == 0 {
				behind = place + 2
			}
			place = (b-192)*256 + int(bytes[place+1])
			if place >= bound {
				return "", 0, false
			}
			bound = place
		default:
			return "", 0, false
		}
	}
	return "", 0, false
}

func slowUnpack(bytes string) ([]string, api.Errno, int) {
	var names []string
	for place := 0; place < len(bytes); {
		name, behind, ok := slowName(bytes, place)
		if !ok || len(names) == 40 {
			return nil, api.ErrName, place
		}
		names = append(names, name)
		place = behind
	}
	return names, api.OK, 0
}

// wantUnpackedByTheWords holds UnpackNames against slowUnpack, and tells how many
// names there are.
func wantUnpackedByTheWords(t *testing.T, bytes string) int {
	t.Helper()
	want, wantErrno, wantPlace := slowUnpack(bytes)
	names, e, place := UnpackNames(bytes)
	if !slices.Equal(names, want) || e != wantErrno || place != wantPlace {
		t.Errorf("UnpackNames(%.200q) = %.200q, %d, %d, want %.200q, %d, %d", bytes, names, e, place, want, wantErrno, wantPlace)
	}
	return len(names)
}

// wantAllUnpacked puts up to so many pieces together, in every way, and tells how
// often names come of them.
func wantAllUnpacked(t *testing.T, bytes string, pieces []string, left int) int {
	t.Helper()
	good := min(wantUnpackedByTheWords(t, bytes), 1)
	if left == 0 {
		return good
	}
	for _, piece := range pieces {
		good += wantAllUnpacked(t, bytes+piece, pieces, left-1)
	}
	return good
}

func TestUnpackAllShortBytes(t *testing.T) {
	if good := wantAllUnpacked(t, "", strings.Split("\x00|\x01|\x02|\x03|a|.|\xc0", "|"), 7); good < 20 {
		t.Errorf("names come only of %d", good)
	}
}

// TestUnpackAllShortPieces: labels, ends and pointers in every order.
func TestUnpackAllShortPieces(t *testing.T) {
	pieces := []string{"\x00", "\x01a", "\x01b", "\x02cd", "\xc0"}
	for place := range 7 {
		pieces = append(pieces, "\xc0"+string(rune(place)))
	}
	good := wantAllUnpacked(t, "", pieces, 6)
	if good < 1000 {
		t.Errorf("names come only of %d", good)
	}
	t.Log(good)
}

// madeUpNames are names of which many have an ending in common.
func madeUpNames(source *rand.Rand) []string {
	labels := []string{"a", "b", "aa", "ab", "0", "0123456789abcde", "abcdefgh", "xy", "9", "abcdefghijklmn"}
	labels = labels[:1+source.Intn(len(labels))]
	names := make([]string, source.Intn(41))
	for i := range names {
		for range 1 + source.Intn(8) {
			label := labels[source.Intn(len(labels))]
			if longer := label + "." + names[i]; len(longer) <= 61 {
				names[i] = longer
			}
		}
		names[i] = strings.TrimSuffix(names[i], ".")
	}
	return names
}

// pointersIn are the places of the pointers in packed names, and those to which they lead.
func pointersIn(bytes string) [][2]int {
	var pointers [][2]int
	for place := 0; place < len(bytes); {
		b := int(bytes[place])
		if b >= 192 {
			pointers = append(pointers, [2]int{place, (b-192)*256 + int(bytes[place+1])})
			b = 1
		}
		place += 1 + b
	}
	return pointers
}

// TestNamesGoBothWays: P6 by the document's words, and of P8 what it says of names.
func TestNamesGoBothWays(t *testing.T) {
	source := rand.New(rand.NewSource(6))
	wide := 0
	for range 3000 {
		names := madeUpNames(source)
		bytes, e := PackNames(names)
		if want := slowPack(names); bytes != want || e != api.OK {
			t.Fatalf("PackNames(%q) = %q, %d, want %q", names, bytes, e, want)
		}
		wantUnpacked(t, bytes, names)
		full := 0
		for _, name := range names {
			full += len(name) + 2
		}
		if len(bytes) > full {
			t.Errorf("PackNames(%q): %d bytes, in full %d", names, len(bytes), full)
		}
		for _, pointer := range pointersIn(bytes) {
			if pointer[1] >= pointer[0] || bytes[pointer[1]] < 1 || bytes[pointer[1]] > 15 {
				t.Errorf("PackNames(%q): the pointer at %d leads to %d", names, pointer[0], pointer[1])
			}
			if pointer[1] > 255 {
				wide++
			}
		}
	}
	if wide < 1000 {
		t.Errorf("only %d pointers lead to a place above 255", wide)
	}
}

// spoilt is packed names of which a byte became another, came or went, or of
// which a pointer leads elsewhere.
func spoilt(source *rand.Rand, packed string) string {
	const others = "\x00\x01\x02\x03\x0f\x10a.z\x7f\xbf\xc0\xc1\xc2\xff"
	bytes := []byte(packed)
	if len(bytes) == 0 {
		return packed
	}
	at, other := source.Intn(len(bytes)), others[source.Intn(len(others))]
	if pointers := pointersIn(packed); len(pointers) > 0 && source.Intn(2) == 0 {
		pointer, place := pointers[source.Intn(len(pointers))][0], at
		bytes[pointer], bytes[pointer+1] = byte(192+place/256), byte(place%256)
		return string(bytes)
	}
	switch source.Intn(3) {
	case 0:
		bytes = slices.Delete(bytes, at, at+1)
	case 1:
		bytes = slices.Insert(bytes, at, other)
	default:
		bytes[at] = other
	}
	return string(bytes)
}

func TestUnpackSpoiltBytes(t *testing.T) {
	source := rand.New(rand.NewSource(7))
	answers := map[bool]int{}
	for range 30000 {
		packed, _ := PackNames(madeUpNames(source))
		answers[wantUnpackedByTheWords(t, spoilt(source, packed)) > 0]++
	}
	if answers[true] < 1000 || answers[false] < 1000 {
		t.Errorf("too few answers of a kind: %v", answers)
	}
	t.Log(answers)
}
