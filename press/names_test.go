package press

import (
	"slices"
	"strings"
	"testing"

	"press/api"
)

// fullName is a name of 60 bytes, which are 62 when they are packed.
const fullName = "0123456789abcde.0123456789abcde.0123456789abcde.012345678901"

func wantPacked(t *testing.T, names []string, want string, wantErrno api.Errno) {
	t.Helper()
	if bytes, e := PackNames(names); bytes != want || e != wantErrno {
		t.Errorf("PackNames(%.200q) = %.200q, %d, want %.200q, %d", names, bytes, e, want, wantErrno)
	}
}

// wantBothWays: names are packed so, and come back of it.
func wantBothWays(t *testing.T, names []string, bytes string) {
	t.Helper()
	wantPacked(t, names, bytes, api.OK)
	wantUnpacked(t, bytes, names)
}

func wantUnpacked(t *testing.T, bytes string, want []string) {
	t.Helper()
	if names, e, place := UnpackNames(bytes); !slices.Equal(names, want) || e != api.OK || place != 0 {
		t.Errorf("UnpackNames(%.200q) = %.200q, %d, %d, want %.200q", bytes, names, e, place, want)
	}
}

func wantNoNames(t *testing.T, bytes string, want int) {
	t.Helper()
	if names, e, place := UnpackNames(bytes); len(names) != 0 || e != api.ErrName || place != want {
		t.Errorf("UnpackNames(%.200q) = %.200q, %d, %d, want the place %d", bytes, names, e, place, want)
	}
}

// numbered makes a name of so many labels of 15 bytes, and one of 3; no other
// number has any of them.
func numbered(number, labels int) string {
	own := "n" + string(rune('a'+number/26)) + string(rune('a'+number%26))
	return strings.Repeat(own+"567890abcdef.", labels) + own
}

func TestNamesExamples(t *testing.T) {
	wantBothWays(t, []string{"a.b", "c.b", "b"}, "\x01\x61\x01\x62\x00\x01\x63\xc0\x02\xc0\x02")
	wantNoNames(t, "\xc0\x00", 0)
	wantNoNames(t, "\x01\x61", 0)
}

func TestPackEndings(t *testing.T) {
	for _, c := range []struct {
		names []string
		bytes string
	}{
		{nil, ""}, {[]string{}, ""}, {[]string{"a"}, "\x01a\x00"}, {[]string{"ab.0"}, "\x02ab\x010\x00"},
		// Only endings are not written again, and of whole labels.
		{[]string{"a.b", "a"}, "\x01a\x01b\x00\x01a\x00"}, {[]string{"a.b", "a.c"}, "\x01a\x01b\x00\x01a\x01c\x00"},
		{[]string{"ab", "b"}, "\x02ab\x00\x01b\x00"}, {[]string{"b", "ab"}, "\x01b\x00\x02ab\x00"}, {[]string{"ab.c", "b.c"}, "\x02ab\x01c\x00\x01b\xc0\x03"},
		{[]string{"a.b", "ab"}, "\x01a\x01b\x00\x02ab\x00"}, {[]string{"a.b.c", "a.b"}, "\x01a\x01b\x01c\x00\x01a\x01b\x00"},
		// In one name no ending is another.
		{[]string{"a.a"}, "\x01a\x01a\x00"}, {[]string{"a.a.a"}, "\x01a\x01a\x01a\x00"}, {[]string{"a.b.a.b"}, "\x01a\x01b\x01a\x01b\x00"},
		{[]string{"a.a", "a.a.a", "a"}, "\x01a\x01a\x00\x01a\xc0\x00\xc0\x02"}, {[]string{"a.b.a", "a"}, "\x01a\x01b\x01a\x00\xc0\x04"},
		// The longest ending, at its first place; a pointer alone is none.
		{[]string{"a", "a", "a"}, "\x01a\x00\xc0\x00\xc0\x00"}, {[]string{"a.b", "b", "c.b", "b"}, "\x01a\x01b\x00\xc0\x02\x01c\xc0\x02\xc0\x02"},
		{[]string{"a.b.c", "b.c", "c", "x.b.c"}, "\x01a\x01b\x01c\x00\xc0\x02\xc0\x04\x01x\xc0\x02"},
		// An ending in which a pointer stands.
		{[]string{"b", "a.b", "x.a.b", "y.x.a.b"}, "\x01b\x00\x01a\xc0\x00\x01x\xc0\x03\x01y\xc0\x07"},
		{[]string{"c", "a.b.c", "b.c", "a.b.c"}, "\x01c\x00\x01a\x01b\xc0\x00\xc0\x05\xc0\x03"},
	} {
		wantBothWays(t, c.names, c.bytes)
	}
}

// TestPackWidePlaces: pointers to the places about 256, and to a late one.
func TestPackWidePlaces(t *testing.T) {
	for _, c := range []struct {
		ahead   int
		pointer string
	}{
		{253, "\xc0\xfd"}, {254, "\xc0\xfe"}, {255, "\xc0\xff"}, {256, "\xc1\x00"}, {257, "\xc1\x01"},
	} {
		var names []string
		for i := range 4 {
			names = append(names, numbered(i, 2)+".abcdefgh."+"aaaabbbbccccddd"[i:]) // 16 + 16 + 4 + 9 + (16-i) + 1
		}
		before, _ := PackNames(names)
		names = append(names, strings.Repeat("f", c.ahead-len(before)-2), "target", "target")
		bytes, e := PackNames(names)
		if e != api.OK || !strings.HasSuffix(bytes, "\x06target\x00"+c.pointer) || len(bytes) != c.ahead+10 {
			t.Errorf("a pointer to %d: %d, %q", c.ahead, e, bytes)
		}
		wantUnpacked(t, bytes, names)
	}
	var names []string
	var full strings.Builder
	for i := range 39 {
		name := numbered(i, 3) + fullName[51:]
		names = append(names, name)
		for label := range strings.SplitSeq(name, ".") {
			full.WriteString(string(rune(len(label))) + label)
		}
		full.WriteByte(0)
	}
	wantBothWays(t, append(names, names[38]), full.String()+"\xc9\x34") // 38 times 62
}

func TestPackRefuses(t *testing.T) {
	for b := range 256 {
		text := string([]byte{byte(b)})
		want, e := "", api.ErrName
		if 'a' <= b && b <= 'z' || '0' <= b && b <= '9' {
			want, e = "\x01"+text+"\x00", api.OK
		}
		wantPacked(t, []string{text}, want, e)
	}
	for _, name := range []string{
		"", ".", "a.", ".a", "a..b", "a.b.", "A", "a.B", "a b", "a-b", "a\x00", "\xff", "ä",
		"0123456789abcdef", "a.0123456789abcdef", "0123456789abcdef.a", fullName + "2", strings.Repeat("a.", 30) + "a", strings.Repeat("a", 1000000),
	} {
		wantPacked(t, []string{name}, "", api.ErrName)
		wantPacked(t, []string{"a", "b", name}, "", api.ErrName)
		wantPacked(t, []string{name, "a", "a"}, "", api.ErrName)
	}
	wantBothWays(t, []string{fullName}, "\x0f0123456789abcde\x0f0123456789abcde\x0f0123456789abcde\x0c012345678901\x00")
}

func TestPackLength(t *testing.T) {
	wantBothWays(t, slices.Repeat([]string{"a"}, 40), "\x01a\x00"+strings.Repeat("\xc0\x00", 39))
	wantPacked(t, slices.Repeat([]string{"a"}, 41), "", api.ErrLong)
	wantPacked(t, slices.Repeat([]string{"."}, 40), "", api.ErrName)
	wantPacked(t, slices.Repeat([]string{"."}, 41), "", api.ErrLong)
	wantPacked(t, make([]string, 100000), "", api.ErrLong)
}

func TestUnpackNames(t *testing.T) {
	wantUnpacked(t, "", nil)
	wantUnpacked(t, "\x01a\x00", []string{"a"})
	wantUnpacked(t, "\x02a0\x01z\x01z\x00\x0f0123456789abcde\x00", []string{"a0.z.z", "0123456789abcde"})
	// What PackNames would not write so.
	wantUnpacked(t, "\x01a\x00\x01a\x00", []string{"a", "a"})
	wantUnpacked(t, "\x01a\x00\xc0\x00\xc0\x03\xc0\x05", []string{"a", "a", "a", "a"})
	wantUnpacked(t, "\x01a\x00\x01b\xc0\x02", []string{"a", "b"})
	wantUnpacked(t, "\x01a\x00\x01b\xc0\x00\x01c\xc0\x06", []string{"a", "b.a", "c"}) // a pointer's second byte ends a name
	for bytes, place := range map[string]int{
		"\x00": 0, "\x01a\x00\x00": 3, "\x01a\x00\xc0\x02": 3, // without labels
		"\x01": 0, "\x01a": 0, "\x02a\x00": 0, "\x01a\x00\x01b": 3, "\x01a\x00\x02b": 3, "\x0f0123456789abcd": 0, // cut off
		"\x01a\xc0": 0, "\x01a\x00\xc0": 3, "\x01a\x00\x01b\xc0": 3,
		"\x01A\x00": 0, "\x01.\x00": 0, "\x03a.b\x00": 0, "\x01\x00\x00": 0, "\x01a\x00\x01\xff\x00": 3, "\x02\x01a\x00": 0, // other bytes
		"\xc0\x00": 0, "\x01a\xc0\x00": 0, "\x01a\xc0\x02": 0, "\x01a\x00\xc0\x03": 3, "\x01a\x00\x01b\xc0\x03": 3, // not below
		"\x01a\x00\xc0\x04": 3, "\x01a\x00\xc1\x00": 3, "\x01a\x00\xff\xff": 3, "\x01a\x00\x01b\x00\xc0\x06": 6, "\xff\xff": 0,
		"\x02ab\x00\xc0\x01": 4, "\x02ab\x00\xc0\x02": 4, // into a label
		"\x01a\x00\x01b\x00\x01C\x00\x01D\x00": 6, "\x01a\x00\xc0\x05\x01b\x00": 3, // the first name that is wrong
	} {
		wantNoNames(t, bytes, place)
	}
}

// TestUnpackFirstBytes: every byte at which a label, a pointer or the end may stand.
func TestUnpackFirstBytes(t *testing.T) {
	const behind = "abcdefghijklmnop"
	for b := range 256 {
		length := min(b, len(behind))
		bytes := "\x01x\x00" + string([]byte{byte(b)}) + behind[:length] + "\x00"
		if 1 <= b && b <= 15 {
			wantUnpacked(t, bytes, []string{"x", behind[:b]})
		} else {
			wantNoNames(t, bytes, 3)
		}
	}
}

func TestUnpackLengths(t *testing.T) {
	packed, _ := PackNames([]string{fullName})
	wantNoNames(t, strings.Replace(packed, "\x0c01", "\x0d0xx", 1), 0)
	wantNoNames(t, strings.Repeat("\x01a", 31)+"\x00", 0)
	wantUnpacked(t, strings.Repeat("\x01a", 29)+"\x02bb\x00", []string{strings.Repeat("a.", 29) + "bb"})
	// By a pointer, too, it has no more than 60 bytes.
	behind := fullName[16:]
	ahead, _ := PackNames([]string{behind})
	wantUnpacked(t, ahead+"\x0fabcdefghijklmno\xc0\x00", []string{behind, "abcdefghijklmno." + behind})
	wantNoNames(t, ahead+"\x01x\x0eabcdefghijklmn\xc0\x00", len(ahead))
	wantNoNames(t, packed+"\x01x\xc0\x00", len(packed))
	wantUnpacked(t, packed+"\xc0\x00", []string{fullName, fullName})
	// The bytes' length, and what it stands ahead of.
	wantNoNames(t, strings.Repeat("\x00", 4000), 0)
	wantNoNames(t, strings.Repeat("\x01a", 2000), 0)
	for _, bytes := range []string{strings.Repeat("\x00", 4001), strings.Repeat("\x01a\x00", 1334), strings.Repeat("x", 1000000)} {
		if names, e, place := UnpackNames(bytes); len(names) != 0 || e != api.ErrLong || place != 0 {
			t.Errorf("UnpackNames of %d bytes = %q, %d, %d", len(bytes), names, e, place)
		}
	}
}

// TestUnpackCount: the names are counted from 0, and the one with the number 40
// is one too many, whatever it is.
func TestUnpackCount(t *testing.T) {
	forty := strings.Repeat("\x01a\x00", 40)
	wantUnpacked(t, forty, slices.Repeat([]string{"a"}, 40))
	for _, behind := range []string{"\x01a\x00", "\xc0\x00", "\x00", "\x01", "\xff", "\x01b\x00\x01c\x00"} {
		wantNoNames(t, forty+behind, 120)
	}
	wantNoNames(t, strings.Repeat("\x01a\x00", 1333), 120)
}

// TestUnpackPointersGoDown: a pointer to the second byte of another, which is
// the first byte of a pointer itself. Where that one leads, hangs on the byte
// behind it, at which the next name begins.
func TestUnpackPointersGoDown(t *testing.T) {
	ahead := []string{numbered(0, 3) + fullName[51:], numbered(1, 3) + fullName[51:], numbered(2, 3) + fullName[51:],
		"abcdef.abcdefghijklmno.abcdefghijklmnp.abcdefghijklmnq.abcde", "abcdefghij"}
	bytes, _ := PackNames(ahead)
	if len(bytes) != 260 {
		t.Fatalf("%d bytes: %q", len(bytes), bytes)
	}
	bytes += "\xc0\xc1" // to the second label of the name at 186
	long := ahead[3][len("abcdef."):]
	wantUnpacked(t, bytes+"\x04wxyz\x00\xc1\x05", append(slices.Clone(ahead), long, "wxyz", long)) // to 261, 260 and 193
	wantNoNames(t, bytes+"\x05vwxyz\x00\xc1\x05", 269)                                             // to 261 and 261
	wantNoNames(t, bytes+"\x06uvwxyz\x00\xc1\x05", 270)                                            // to 261 and 262
	wantUnpacked(t, bytes+"\x06uvwxyz\x00\xc1\x06", append(slices.Clone(ahead), long, "uvwxyz", "uvwxyz"))
}
