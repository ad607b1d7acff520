package values

import (
	"strings"
	"testing"

	"press/api"
)

func TestReadTellsTheValues(t *testing.T) {
	v, e, place := Read(`(0 4294967295 - "" "00ff9a" [/1 /0 7 ()])`)
	if e != api.OK || place != 0 || v.Kind != Struct || len(v.Values) != 6 {
		t.Fatalf("%v, %d, %d", v, e, place)
	}
	for i, want := range []Value{{Kind: Number}, {Kind: Number, Number: 4294967295}, {Kind: Nothing}, {Kind: Run}, {Kind: Run, Run: "\x00\xff\x9a"}} {
		if got := v.Values[i]; got.Kind != want.Kind || got.Number != want.Number || got.Run != want.Run || got.Values != nil {
			t.Errorf("%d: %v, want %v", i, *got, want)
		}
	}
	list := v.Values[5]
	if list.Kind != List || len(list.Values) != 2 || list.Values[1].Kind != Struct || len(list.Values[1].Values) != 0 {
		t.Fatalf("the list: %v", list)
	}
	second := list.Values[0]
	if second.Kind != Choice || second.Number != 1 || len(second.Values) != 1 {
		t.Fatalf("the choice: %v", second)
	}
	first := second.Values[0]
	if first.Kind != Choice || first.Number != 0 || len(first.Values) != 1 || first.Values[0].Number != 7 {
		t.Errorf("the choice in it: %v", first)
	}
}

func wantNoTree(t *testing.T, text string, want int) {
	t.Helper()
	if v, e, place := Read(text); v != nil || e != api.ErrTree || place != want {
		t.Errorf("Read(%.40q) = %v, %d, %d, want the place %d", text, v, e, place, want)
	}
}

func wantTree(t *testing.T, text string) {
	t.Helper()
	v, e, place := Read(text)
	if e != api.OK || place != 0 {
		t.Errorf("Read(%.40q) = %d, %d", text, e, place)
	} else if again := v.Text(); again != text {
		t.Errorf("Read(%.40q) is %.40q", text, again)
	}
}

func TestReadNumbers(t *testing.T) {
	for _, text := range []string{"0", "1", "9", "10", "65536", "4294967295", "[4294967295]"} {
		wantTree(t, text)
	}
	for text, place := range map[string]int{
		"00": 1, "01": 1, "0x": 1, "-1": 1, "+1": 0, "1.5": 1, "1 ": 1, " 1": 0, "1 2": 1, "1a": 1, ":": 0, "1:": 1,
		// Of one too great, the place behind its last digit.
		"4294967296": 10, "4294967296x": 10, "42949672950": 11, "9999999999": 10, "18446744073709551615": 20, "18446744073709551616": 20,
		"18446744073709551621)": 20, "(4294967296)": 11, "(1 4294967296 x": 13, "[/0 4294967300]": 14, strings.Repeat("9", 8000): 8000,
	} {
		wantNoTree(t, text, place)
	}
}

func TestReadBounds(t *testing.T) {
	runs := strings.Repeat("00", 3999)
	wantTree(t, `"`+runs+`"`)
	wantTree(t, `[1 "`+runs[:7994]+`"]`) // of 8000 bytes
	wantNoTree(t, `[10 "`+runs[:7994]+`"]`, 0)
	wantNoTree(t, `"`+runs+`0`, 8000)
	wantNoTree(t, `"`+runs+`0"`, 0)
	wantNoTree(t, strings.Repeat("x", 8000), 0)
	wantNoTree(t, "5"+strings.Repeat(" ", 7999), 1)
	wantNoTree(t, "5"+strings.Repeat(" ", 8000), 0)
	wantTree(t, strings.Repeat("(", 4000)+strings.Repeat(")", 4000))
	wantTree(t, strings.Repeat("/1 ", 2666)+"-")
	wantNoTree(t, strings.Repeat("[", 8000), 8000)
	wantNoTree(t, strings.Repeat("/0 ", 2666)+"/0", 8000)
}

// standing is what may stand next, byte by byte: the brackets that are open,
// and where the text is in a value.
type standing struct {
	open  string
	state byte
}

// next tells what may stand behind a byte, if the byte may stand.
func (s standing) next(b byte) (standing, bool) {
	digit := '0' <= b && b <= '9'
	switch s.state {
	case 'v', 'f': // ahead of a value; of the first in a bracket
		if s.state == 'f' && b == s.open[len(s.open)-1] {
			return standing{s.open[:len(s.open)-1], 'b'}, true
		}
		closing := map[byte]string{'(': ")", '[': "]"}[b]
		state, ok := map[byte]byte{'-': 'b', '0': 'b', '"': 'r', '/': 'c', '(': 'f', '[': 'f'}[b]
		if digit && b != '0' {
			state, ok = 'n', true
		}
		return standing{s.open + closing, state}, ok
	case 'n', 'b': // in a number; behind a value
		switch {
		case s.state == 'n' && digit:
			return s, true
		case s.open != "" && b == ' ':
			return standing{s.open, 'v'}, true
		case s.open != "" && b == s.open[len(s.open)-1]:
			return standing{s.open[:len(s.open)-1], 'b'}, true
		}
	case 'r', 's': // in a run, ahead of a first digit or a second
		if s.state == 'r' && b == '"' {
			return standing{s.open, 'b'}, true
		}
		return standing{s.open, 'r' + 's' - s.state}, digit || 'a' <= b && b <= 'f'
	case 'c': // in a choice
		return standing{s.open, 'd'}, b == '0' || b == '1'
	case 'd':
		return standing{s.open, 'v'}, b == ' '
	}
	return s, false
}

// firstWrong finds the place of the first byte that cannot stand.
func firstWrong(text string) (int, bool) {
	s, ok := standing{"", 'v'}, true
	for i := range len(text) {
		if s, ok = s.next(text[i]); !ok {
			return i, true
		}
	}
	return len(text), s.open != "" || s.state != 'b' && s.state != 'n'
}

// TestReadAllShortTexts: each text of up to six of the signs of trees.
func TestReadAllShortTexts(t *testing.T) {
	texts, trees := []string{""}, 0
	for range 7 {
		var longer []string
		for _, text := range texts {
			place, wrong := firstWrong(text)
			if wrong {
				wantNoTree(t, text, place)
			} else {
				wantTree(t, text)
				trees++
			}
			// A text that is wrong ahead of its end is so however it goes on.
			for _, b := range []byte(`019-"a()[]/ `) {
				if place == len(text) || len(text) < 3 {
					longer = append(longer, text+string(b))
				}
			}
		}
		texts = longer
	}
	if trees < 1000 {
		t.Errorf("only %d trees", trees)
	}
}

// TestReadAtEveryCut: a tree that is cut, with any byte behind the cut.
func TestReadAtEveryCut(t *testing.T) {
	whole := `([/0 - /1 (120 "0f9a")] [] () "" 0 /0 [1 2])`
	for n := range len(whole) + 1 {
		for b := range 256 {
			for _, behind := range []string{"", ")", " 0", "]x"} {
				text := whole[:n] + string([]byte{byte(b)}) + behind
				if place, wrong := firstWrong(text); wrong {
					wantNoTree(t, text, place)
				} else {
					wantTree(t, text)
				}
			}
		}
	}
}
