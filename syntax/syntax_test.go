package syntax

import (
	"strconv"
	"strings"
	"testing"

	"press/api"
)

// told writes out what was read: of each part its kind and what it has.
func told(p *Part) string {
	words := []string{strconv.Itoa(int(p.Kind)), "at", strconv.Itoa(p.Place)}
	add := func(name string, n int) {
		if n != 0 {
			words = append(words, name, strconv.Itoa(n))
		}
	}
	add("W", p.Width)
	add("d", p.Dependency)
	add("d at", p.DependencyPlace)
	add("value", int(p.Value))
	add("rule", p.Rule)
	if p.Silent {
		words = append(words, "silent")
	}
	for _, inner := range p.Parts {
		words = append(words, "{"+told(inner)+"}")
	}
	return strings.Join(words, " ")
}

func TestReadTellsTheParts(t *testing.T) {
	for text, want := range map[string]string{
		"A=n2":            "0 at 2 W 2",
		"A=l4":            "1 at 2 W 4",
		"A='a9":           "2 at 2 value 169",
		"A=('01*'02)":     "3 at 2 {2 at 3 value 1 silent} {5 at 6 {2 at 7 value 2}}",
		"A=(n1.)":         "3 at 2 {0 at 3 W 1} {14 at 5}",
		"A=/n1*l2":        "4 at 2 {0 at 3 W 1} {5 at 5 {1 at 6 W 2}}",
		"A=H;H=n1":        "6 at 2 rule 7",
		"A=(h3brb)":       "3 at 2 {7 at 3 W 3 d 1 d at 5 silent} {9 at 6 d 1 d at 7}",
		"A=(k1hth.)":      "3 at 2 {8 at 3 W 1 d 7 d at 5 silent} {10 at 6 d 7 d at 7 {14 at 8}}",
		"A=(h1ah1bwa@b.)": "3 at 2 {7 at 3 W 1 d at 5 silent} {7 at 6 W 1 d 1 d at 8 silent} {11 at 9 d at 10 {12 at 11 d 1 d at 12 {14 at 13}}}",
		"A=(h1csc'00)":    "3 at 2 {7 at 3 W 1 d 2 d at 5 silent} {13 at 6 d 2 d at 7 {2 at 8}}",
	} {
		g, e, place := Read(text)
		if e != api.OK || place != 0 {
			t.Errorf("Read(%q): %d, %d", text, e, place)
			continue
		}
		if got := told(g.Rules[0].Part); got != want {
			t.Errorf("Read(%q):\n%s, want\n%s", text, got, want)
		}
	}
}

func TestReadTellsTheRules(t *testing.T) {
	g, e, _ := Read("A=C;C=n1;B=A")
	if e != api.OK || len(g.Rules) != 3 {
		t.Fatalf("Read: %d, %v", e, g)
	}
	for i, want := range []Rule{{Number: 0, Place: 0}, {Number: 2, Place: 4}, {Number: 1, Place: 9}} {
		if r := g.Rules[i]; r.Number != want.Number || r.Place != want.Place || r.Part.Place != want.Place+2 {
			t.Errorf("rule %d: %v", i, r)
		}
	}
}

func TestPartOf(t *testing.T) {
	g, _, _ := Read("A=C;C=n1;B=A")
	for rule, place := range []int{2, 11, 6} {
		if p := g.PartOf(rule); p == nil || p.Place != place {
			t.Errorf("PartOf(%d) = %v, want the one at %d", rule, p, place)
		}
	}
	if p := g.PartOf(3); p != nil {
		t.Errorf("PartOf(3) = %v, want none", p)
	}
}

func TestReadGivesNothingWithAnError(t *testing.T) {
	for _, text := range []string{"", strings.Repeat("x", 401), "A=B", "A=ra"} {
		if g, e, _ := Read(text); g != nil || e == api.OK {
			t.Errorf("Read(%.20q) = %v, %d", text, g, e)
		}
	}
}

// item is one hidden or using part in a struct, as the test below sees it.
type item struct {
	d      byte
	place  int
	hidden bool
	own    bool // it is one of the struct's parts itself
	stands bool // it stands in the struct
}

// firstWrong goes by the document's words, item by item.
func firstWrong(items []item) (int, bool) {
	for i, x := range items {
		hiddenAhead, usedAhead, usedBehind := false, false, false
		for j, y := range items {
			if y.d != x.d || j == i {
				continue
			}
			hiddenAhead = hiddenAhead || j < i && y.hidden && y.own
			usedAhead = usedAhead || j < i && !y.hidden && y.stands
			usedBehind = usedBehind || j > i && !y.hidden && y.stands
		}
		if x.hidden && (!x.own || hiddenAhead || !usedBehind) || !x.hidden && (!x.stands || !hiddenAhead || usedAhead) {
			return x.place, true
		}
	}
	return 0, false
}

// itemsOf reads a struct that is put together of the pieces of the next test.
func itemsOf(text string) []item {
	var items []item
	own, stands := true, true
	for i := len("A=("); i < len(text)-1; {
		switch c := text[i]; c {
		case 'h':
			items = append(items, item{text[i+2], i + 2, true, own, stands})
			own, stands, i = true, true, i+3
		case 'r':
			items = append(items, item{text[i+1], i + 1, false, own, stands})
			own, stands, i = true, true, i+2
		case '*':
			own, stands, i = false, false, i+1
		case '.':
			own, stands, i = true, true, i+1
		default:
			items = append(items, item{text[i+1], i + 1, false, own, stands})
			own, stands, i = false, stands && c != 't', i+2
		}
	}
	return items
}

// TestBoundGoesByTheWords holds Read against the document's words at every
// struct of up to five pieces.
func TestBoundGoesByTheWords(t *testing.T) {
	pieces := []string{"h1a", "h1b", "ra", "rb", "wa", "@b", "sa", "tb", "*", "."}
	good := 0
	var grow func(text string, left int)
	grow = func(text string, left int) {
		whole := text + ")"
		if g, e, place := Read(whole); e != api.ErrForm {
			want, wrong := firstWrong(itemsOf(whole))
			if wrong != (e == api.ErrBound) || place != want || wrong != (g == nil) {
				t.Errorf("Read(%q): %d, %d, want %v, %d", whole, e, place, wrong, want)
			}
			if !wrong {
				good++
			}
		}
		if left == 0 {
			return
		}
		for _, piece := range pieces {
			grow(text+piece, left-1)
		}
	}
	grow("A=(", 5)
	if good == 0 {
		t.Error("no grammar among them")
	}
	t.Log(good, "grammars")
}
