package press

import (
	"slices"
	"strings"
	"sync"
	"testing"

	"press/api"
)

// oddTexts are texts that are wrong in many ways, some grammars among them.
func oddTexts() []string {
	texts := []string{"", "A", "A=", "A=A", "A=B;B=A", "A=(h1ara)", "\xff\xfe", "ä", strings.Repeat("x", 100000),
		strings.Repeat("(", 5000), "A=" + strings.Repeat("(", 398), "A=" + strings.Repeat("*", 397) + "A",
		"A=" + strings.Repeat("@a", 199), strings.Repeat("A=A;", 100), strings.Repeat("[", 8000), "(((", "/0", "\""}
	for b := range 256 {
		texts = append(texts, string([]byte{byte(b)}), "A="+string([]byte{byte(b)}), "A=("+string([]byte{byte(b)})+")")
	}
	return texts
}

// TestNoCallPanics: P1, whatever the calls are given.
func TestNoCallPanics(t *testing.T) {
	numbers := []int{-1 << 63, -1, 0, 1, 400, 100001, 1<<63 - 1}
	for _, text := range oddTexts() {
		Check(text)
		UnpackNames(text)
		PackNames([]string{text, text})
		for _, n := range numbers {
			Parse(text, text, n, n)
			Parse("A=n1", text, n, n)
			Generate(text, text, n)
			Generate("A=n1", text, n)
			Generate(text, "()", n)
			Generate("A=/(*A)(h1a@aA)", text, n)
		}
	}
	PackNames(nil)
	PackNames(make([]string, 1000))
	PackNames(oddTexts()[:40])
	PackNames(oddTexts())
	for b := range 65536 {
		UnpackNames(string([]byte{1, 'a', 0, byte(b / 256), byte(b)}))
		UnpackNames(strings.Repeat(string([]byte{byte(b / 256), byte(b)}), 2000))
	}
}

// TestCheckAtEveryCut: a grammar that is cut, with any byte behind the cut.
func TestCheckAtEveryCut(t *testing.T) {
	for _, whole := range []string{eightRules, "A=(h1ah2bk3ck4dwa@bsctd/'0f*(h1ara).);B=/A*B;C=(l2n3)"} {
		for n := range len(whole) + 1 {
			for b := range 256 {
				wantFitPlace(t, whole[:n]+string([]byte{byte(b)}))
			}
		}
	}
}

// wantFitPlace: the place is one of the text's; where the form is wrong, what
// stands ahead of the place could go on, and what stands behind is nothing to it.
func wantFitPlace(t *testing.T, text string) {
	t.Helper()
	e, place := Check(text)
	if e == api.OK && place != 0 || place < 0 || place > len(text) {
		t.Errorf("Check(%q) = %d, %d", text, e, place)
		return
	}
	if e != api.ErrForm {
		return
	}
	if cut, at := Check(text[:place]); cut == api.ErrForm && at != place {
		t.Errorf("Check(%q) = %d, %d, but cut there %d, %d", text, e, place, cut, at)
	}
	if place < len(text) {
		wantChecks(t, []checked{{text + ";A=B", api.ErrForm, place}})
	}
}

// TestCheckHangsOnItsArgumentAlone: P2, in any order and many at a time.
func TestCheckHangsOnItsArgumentAlone(t *testing.T) {
	texts := oddTexts()
	want := make([]checked, len(texts))
	for i, text := range texts {
		e, place := Check(text)
		want[i] = checked{text, e, place}
	}
	var group sync.WaitGroup
	for range 4 {
		group.Go(func() {
			for _, c := range slices.Backward(want) {
				if e, place := Check(c.grammar); e != c.e || place != c.place {
					t.Errorf("Check(%.40q) = %d, %d, but %d, %d before", c.grammar, e, place, c.e, c.place)
				}
			}
		})
	}
	group.Wait()
}

// TestParseHangsOnItsArgumentsAlone: P2, in any order and many at a time.
func TestParseHangsOnItsArgumentsAlone(t *testing.T) {
	want := []parsed{
		fit("A=(h1ah1bwasb*n1)", "\x02\x20\x01\x01", "([1 1])"), {"A=A", "", "", api.ErrFuel, 0}, unfit("A=/(n1'41)('42n1)", "Ax", 1),
		fit("A=/(h1a@an1'05)(n1n1n1)", "\x02\x07\x09", "/1 (2 7 9)"), {"A=/(.A)n1", "", "", api.ErrNodes, 0}, fit("A=*(h1ara)", "\x01a\x00", `[("61") ("")]`),
	}
	var group sync.WaitGroup
	for first := range want {
		group.Go(func() {
			for i := range 3 * len(want) {
				wantParse(t, want[(first+i)%len(want)], api.MaxFuel, api.MaxNodes)
			}
		})
	}
	group.Wait()
}

// TestGenerateHangsOnItsArgumentsAlone: P2, in any order and many at a time.
func TestGenerateHangsOnItsArgumentsAlone(t *testing.T) {
	want := []generated{
		gives("A=(h1ah1bwasb*n1)", "([1 1])", "\x02\x20\x01\x01"), noValue("A=A", "5"), other("A=*A", "[]"), gives("A=(h1a@a(h1b@bn1n1)n1)", "((9 8) 7)", "\x02\x07\x04\x08\x09"),
		{"A=(h1ara)", "(" + runOf(256) + ")", "", api.ErrWidth}, gives("A=(h1asa(h1bsbn1))", "((7))", "\xe0\x07\x07"), {"A=*('41'42)", listOf(2666, "()"), "", api.ErrFull},
	}
	var group sync.WaitGroup
	for first := range want {
		group.Go(func() {
			for i := range 3 * len(want) {
				wantGenerate(t, want[(first+i)%len(want)], api.MaxBytes)
			}
		})
	}
	group.Wait()
}

// TestGenerateOfAPiece: what stands around the texts in memory is nothing to it.
func TestGenerateOfAPiece(t *testing.T) {
	grammar, tree := "A=n1;A=*n1n1"[5:10], "[1 2] 3]"
	wantGenerates(t, []generated{gives(grammar, tree[:5], "\x01\x02"), gives("A=n1", tree[6:7], "\x03"), noValue(grammar, tree[1:2])})
	if _, e, place := Generate(grammar, tree[:4], 9); e != api.ErrTree || place != 4 {
		t.Errorf("a tree that is cut: %d, %d", e, place)
	}
}

// TestParseOfAPiece: what stands around the texts in memory is nothing to it.
func TestParseOfAPiece(t *testing.T) {
	grammar, bytes := "A=n1;A=(h1a*n1@a.)n1"[5:18], "\x00\x02\x03\x04"
	wantParses(t, []parsed{
		fit(grammar, bytes[1:3], `([3] "")`), unfit(grammar, bytes[1:2], 1), fit("A=*n1", bytes[:0], "[]"), unfit("A=n2", bytes[:1], 0),
	})
}

// TestCheckOfAPiece: what stands around a text in memory is nothing to it.
func TestCheckOfAPiece(t *testing.T) {
	around := "A=n1;A=(h1ara);B=n1"
	wantChecks(t, []checked{{around[5:14], api.OK, 0}, {around[5:13], api.ErrForm, 8}, {around[:3], api.ErrForm, 3}, {around[:4], api.OK, 0}})
}

// TestListsAreLeftAlone: P2, what is handed in and its spare room.
func TestListsAreLeftAlone(t *testing.T) {
	room := []string{"a.b", "c.b", "b", "spare", "room", "no name", ""}
	before := slices.Clone(room)
	for length := range room {
		PackNames(room[:length])
		if !slices.Equal(room, before) {
			t.Fatalf("PackNames of %d left %q of %q", length, room, before)
		}
	}
	for _, length := range []int{40, 41} {
		list := slices.Repeat([]string{"a.b"}, 50)
		PackNames(list[:length])
		if !slices.Equal(list, slices.Repeat([]string{"a.b"}, 50)) {
			t.Errorf("PackNames of %d left %q", length, list)
		}
	}
}

// TestListsAreNotKept: P2, what becomes of a list later is nothing to an answer.
func TestListsAreNotKept(t *testing.T) {
	list := []string{"a.b", "c.b", "b"}
	bytes, _ := PackNames(list)
	list[0], list[1] = "b", "b"
	if bytes != "\x01a\x01b\x00\x01c\xc0\x02\xc0\x02" {
		t.Errorf("the answer became %q", bytes)
	}
	wantPacked(t, list, "\x01b\x00\xc0\x00\xc0\x00", api.OK)
}

// TestAnswersAreTheCallers: P2, who may write into what comes out, and into its
// spare room.
func TestAnswersAreTheCallers(t *testing.T) {
	for count := range 41 {
		packed, want := strings.Repeat("\x01a\x00", count), slices.Repeat([]string{"a"}, count)
		first, _, _ := UnpackNames(packed)
		second, _, _ := UnpackNames(packed)
		first = first[:cap(first)]
		for i := range first {
			first[i] = "written"
		}
		if !slices.Equal(second, want) || slices.Contains(second[:cap(second)], "written") {
			t.Errorf("UnpackNames answered %q for %q", second[:cap(second)], want)
		}
		wantUnpacked(t, packed, want)
	}
}

// TestNamesHangOnTheirArgumentAlone: P2, in any order and many at a time.
func TestNamesHangOnTheirArgumentAlone(t *testing.T) {
	lists := [][]string{{"a.b", "c.b", "b"}, {"b"}, {"b", "a.b", "x.a.b"}, {"c.b", "a.b"}}
	packed := []string{"\x01a\x01b\x00\x01c\xc0\x02\xc0\x02", "\x01b\x00", "\x01b\x00\x01a\xc0\x00\x01x\xc0\x03", "\x01c\x01b\x00\x01a\xc0\x02"}
	var group sync.WaitGroup
	for first := range lists {
		group.Go(func() {
			for i := range 100 * len(lists) {
				wantBothWays(t, lists[(first+i)%len(lists)], packed[(first+i)%len(lists)])
				wantPacked(t, []string{"b", "."}, "", api.ErrName)
				wantNoNames(t, "\x01b\x00\xc0\x03", 3)
			}
		})
	}
	group.Wait()
}

// TestUnpackOfAPiece: what stands around the bytes in memory is nothing to it.
func TestUnpackOfAPiece(t *testing.T) {
	around := "\x01a\x00\x01b\x00\xc0\x00\x01c\x00"
	wantUnpacked(t, around[3:8], []string{"b", "b"})
	wantNoNames(t, around[3:5], 0)
	wantNoNames(t, around[:7], 6)
	wantNoNames(t, around[6:], 0)
}
