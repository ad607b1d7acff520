package press

import (
	"encoding/hex"
	"fmt"
	"math/rand"
	"slices"
	"strconv"
	"strings"
	"testing"

	"press/api"
)

// slowWriter generates by the document's words, straight from the texts of the
// grammar and the tree. It knows no order of sums: it works all hidden numbers
// out again and again, until none changes any more.
type slowWriter struct {
	rules  map[byte]string
	bytes  []byte
	later  []func()
	hidden []*slowHidden
}

// slowHidden is a hidden number, where it stands, and what it tells.
type slowHidden struct {
	place, width int
	low          bool
	isSum        bool
	number       func() int
}

// cutValue cuts the first value off a text.
func cutValue(text string) (value, rest string) {
	switch text[0] {
	case '-':
		rest = text[1:]
	case '"':
		rest = text[strings.IndexByte(text[1:], '"')+2:]
	case '/':
		_, rest = cutValue(text[3:])
	case '(', '[':
		for rest = text[1:]; rest[0] != ')' && rest[0] != ']'; {
			_, rest = cutValue(strings.TrimPrefix(rest, " "))
		}
		rest = rest[1:]
	default:
		rest = strings.TrimLeft(text, "0123456789")
	}
	return text[:len(text)-len(rest)], rest
}

// valuesIn are the values in a struct or a list.
func valuesIn(text string) []string {
	var values []string
	for rest := text[1 : len(text)-1]; rest != ""; {
		var value string
		value, rest = cutValue(strings.TrimPrefix(rest, " "))
		values = append(values, value)
	}
	return values
}

// partsIn are the parts in a struct.
func partsIn(text string) []string {
	var parts []string
	for rest := text[1:]; rest != ")"; {
		var part string
		part, rest = cutPart(rest)
		parts = append(parts, part)
	}
	return parts
}

func isSilent(part string) bool {
	return strings.ContainsRune("'hk", rune(part[0]))
}

// has tells whether a value is of a part; passed are the rules that led here
// without another part between.
func (s *slowWriter) has(part, value, passed string) bool {
	switch part[0] {
	case 'n', 'l':
		n, err := strconv.Atoi(value)
		return err == nil && n < 1<<(8*(part[1]-'0'))
	case '\'':
		return value == "-"
	case '.', 'r':
		return value[0] == '"'
	case '(':
		return value[0] == '(' && s.hasAll(part, valuesIn(value))
	case '/':
		first, second := cutPart(part[1:])
		return value[0] == '/' && s.has([]string{first, second}[value[1]-'0'], value[3:], "")
	case '*':
		return value[0] == '[' && s.hasEach(part[1:], valuesIn(value))
	case 't':
		return value[0] == '[' && s.hasEach(part[2:], valuesIn(value))
	case 'w', '@', 's':
		return s.has(part[2:], value, "")
	}
	return !strings.Contains(passed, part) && s.has(s.rules[part[0]], value, passed+part)
}

func (s *slowWriter) hasEach(part string, values []string) bool {
	return !slices.ContainsFunc(values, func(value string) bool { return !s.has(part, value, "") })
}

func (s *slowWriter) hasAll(part string, values []string) bool {
	for _, inner := range partsIn(part) {
		if isSilent(inner) {
			continue
		}
		if len(values) == 0 || !s.has(inner, values[0], "") {
			return false
		}
		values = values[1:]
	}
	return len(values) == 0
}

func (s *slowWriter) put(place, width, n int, low bool) (changed bool) {
	for i := range width {
		at := place + width - 1 - i
		if low {
			at = place + i
		}
		changed = changed || s.bytes[at] != byte(n)
		s.bytes[at] = byte(n)
		n /= 256
	}
	return changed
}

func (s *slowWriter) noughts(width int) int {
	s.bytes = append(s.bytes, make([]byte, width)...)
	return len(s.bytes) - width
}

func (s *slowWriter) write(part, value string, hidden map[byte]*slowHidden) {
	from := len(s.bytes)
	switch part[0] {
	case 'n', 'l':
		width := int(part[1] - '0')
		n, _ := strconv.Atoi(value)
		s.put(s.noughts(width), width, n, part[0] == 'l')
	case '\'', '.', 'r':
		bytes, _ := hex.DecodeString(strings.Trim(value, `"`))
		if part[0] == '\'' {
			bytes, _ = hex.DecodeString(part[1:])
		}
		s.bytes = append(s.bytes, bytes...)
	case '(':
		s.writeStruct(part, valuesIn(value))
	case '/':
		first, second := cutPart(part[1:])
		s.write([]string{first, second}[value[1]-'0'], value[3:], nil)
	case '*':
		s.writeEach(part[1:], valuesIn(value))
	case 't':
		s.writeEach(part[2:], valuesIn(value))
	case 'w', 's':
		s.write(part[2:], value, hidden)
	case '@':
		s.later = append(s.later, func() {
			place := len(s.bytes)
			hidden[part[1]].number = func() int { return place }
			s.write(part[2:], value, hidden)
		})
	default:
		s.write(s.rules[part[0]], value, nil)
	}
	to := len(s.bytes)
	switch part[0] {
	case 'r', 'w':
		hidden[part[1]].number = func() int { return to - from }
	case 't':
		hidden[part[1]].number = func() int { return len(valuesIn(value)) }
	case 's':
		h := hidden[part[1]]
		h.isSum = true
		h.number = func() int { return slowSum(string(s.bytes[from:to]), h.width) }
	}
}

func (s *slowWriter) writeEach(part string, values []string) {
	for _, value := range values {
		s.write(part, value, nil)
	}
}

func (s *slowWriter) writeStruct(part string, values []string) {
	hidden := map[byte]*slowHidden{}
	for _, inner := range partsIn(part) {
		switch {
		case inner[0] == '\'':
			s.write(inner, "-", nil)
		case isSilent(inner):
			width := int(inner[1] - '0')
			h := &slowHidden{place: s.noughts(width), width: width, low: inner[0] == 'k'}
			hidden[inner[2]] = h
			s.hidden = append(s.hidden, h)
		default:
			s.write(inner, values[0], hidden)
			values = values[1:]
		}
	}
}

func slowGenerate(grammar, tree string, most int) (string, api.Errno) {
	s := &slowWriter{rules: map[byte]string{}}
	for rule := range strings.SplitSeq(grammar, ";") {
		s.rules[rule[0]] = rule[2:]
	}
	if !s.has(s.rules['A'], tree, "A") {
		return "", api.ErrValue
	}
	s.write(s.rules['A'], tree, nil)
	for i := 0; i < len(s.later); i++ {
		s.later[i]()
	}
	if len(s.bytes) > most {
		return "", api.ErrFull
	}
	for _, h := range s.hidden {
		if !h.isSum && h.number() >= 1<<(8*h.width) {
			return "", api.ErrWidth
		}
	}
	for changed := true; changed; {
		changed = false
		for _, h := range s.hidden {
			changed = s.put(h.place, h.width, h.number(), h.low) || changed
		}
	}
	if again, _, _ := Parse(grammar, string(s.bytes), api.MaxFuel, api.MaxNodes); again != tree {
		return "", api.ErrOther
	}
	return string(s.bytes), api.OK
}

// tree makes a tree up, mostly one of a part.
func (c chance) tree(rules map[byte]string, part string, depth int) string {
	if depth == 0 || c.Intn(100) == 0 {
		return []string{"1", "-", "()", "[]", `""`, "/0 -", "256", "65536"}[c.Intn(8)]
	}
	some := func(part string) string {
		var values []string
		for range c.Intn(4) {
			values = append(values, c.tree(rules, part, depth-1))
		}
		return "[" + strings.Join(values, " ") + "]"
	}
	switch part[0] {
	case 'n', 'l':
		return strconv.Itoa(c.Intn(4))
	case '\'':
		return "-"
	case '.', 'r':
		length := c.Intn(4)
		if c.Intn(20) == 0 {
			length = 256
		}
		return slowRun(strings.Repeat(string(rune(c.Intn(4))), length))
	case '(':
		var values []string
		for _, inner := range partsIn(part) {
			if !isSilent(inner) {
				values = append(values, c.tree(rules, inner, depth-1))
			}
		}
		return "(" + strings.Join(values, " ") + ")"
	case '/':
		first, second := cutPart(part[1:])
		which := c.Intn(2)
		return fmt.Sprintf("/%d %s", which, c.tree(rules, []string{first, second}[which], depth-1))
	case '*':
		return some(part[1:])
	case 't':
		return some(part[2:])
	case 'w', '@', 's':
		return c.tree(rules, part[2:], depth)
	}
	return c.tree(rules, rules[part[0]], depth-1)
}

// TestGenerateGoesByTheWords holds Generate against slowWriter at made-up
// grammars and trees, with room that is ample and scarce.
func TestGenerateGoesByTheWords(t *testing.T) {
	source := rand.New(rand.NewSource(5))
	answers := map[api.Errno]int{}
	for range 1000 {
		c := chance{source, 1 + source.Intn(3)}
		grammar := c.grammar()
		// One of which Parse has no end would take its time, and show little.
		if _, e, _ := Parse(grammar, "\x01\x02", 5000, 5000); e != api.OK && e != api.ErrSyntax {
			continue
		}
		rules := map[byte]string{}
		for rule := range strings.SplitSeq(grammar, ";") {
			rules[rule[0]] = rule[2:]
		}
		for range 30 {
			tree := c.tree(rules, rules['A'], 8)
			if len(tree) > api.MaxTree {
				continue
			}
			for _, most := range []int{api.MaxBytes, source.Intn(20)} {
				bytes, e := slowGenerate(grammar, tree, most)
				wantGenerate(t, generated{grammar, tree, bytes, e}, most)
				answers[e]++
			}
		}
		if t.Failed() {
			return
		}
	}
	for _, e := range []api.Errno{api.OK, api.ErrValue, api.ErrFull, api.ErrWidth, api.ErrOther} {
		if answers[e] < 100 {
			t.Errorf("only %d answers are %d", answers[e], e)
		}
	}
	t.Log(answers)
}

// TestGenerateGoesBack: of a tree that Parse made, Generate makes the same
// bytes; where at parts leave a choice of places, bytes of the same tree, or none.
func TestGenerateGoesBack(t *testing.T) {
	source := rand.New(rand.NewSource(6))
	back := 0
	for range 300 {
		grammar := chance{source, 1 + source.Intn(3)}.grammar()
		for length := range 5 {
			for _, bytes := range shortTexts(length) {
				tree, e, _ := Parse(grammar, bytes, 400, 100)
				if e != api.OK {
					continue
				}
				again, e, _ := Generate(grammar, tree, api.MaxBytes)
				if e == api.ErrOther && strings.Contains(grammar, "@") {
					continue
				}
				if e != api.OK || again != bytes && !strings.Contains(grammar, "@") {
					t.Fatalf("Generate(%q, %q) = %q, %d, but it came of %q", grammar, tree, again, e, bytes)
				}
				wantParse(t, fit(grammar, again, tree), api.MaxFuel, api.MaxNodes)
				back++
			}
		}
	}
	if back < 1000 {
		t.Errorf("only %d trees", back)
	}
	t.Log(back)
}
