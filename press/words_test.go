package press

import (
	"fmt"
	"math/rand"
	"strings"
	"testing"

	"press/api"
)

// slow parses by the document's words, straight from the grammar's text. What
// is read and made it hands on as values, so that nothing is ever undone.
type slow struct {
	rules       map[byte]string
	bytes       string
	fuel, nodes int
	failed      int
}

// ahead is what a part finds when it is tried.
type ahead struct {
	place, end int
	read       string // of each byte "y" or "n"
	made       int    // how many values there are
}

// after is what a part leaves.
type after struct {
	fits  bool
	place int
	read  string
	made  int
	value string
}

type hiddenOne struct{ number, width int }

// cutPart cuts the first part off a text.
func cutPart(text string) (part, rest string) {
	length, inner := 1, 0
	switch text[0] {
	case 'n', 'l', 'r':
		length = 2
	case '\'', 'h', 'k':
		length = 3
	case 't', 'w', '@', 's':
		length, inner = 2, 1
	case '*':
		inner = 1
	case '/':
		inner = 2
	}
	rest = text[length:]
	for range inner {
		_, rest = cutPart(rest)
	}
	if text[0] == '(' {
		for rest[0] != ')' {
			_, rest = cutPart(rest)
		}
		rest = rest[1:]
	}
	return text[:len(text)-len(rest)], rest
}

func (s *slow) fail(place int) after {
	s.failed = max(s.failed, place)
	return after{}
}

// reads reads n bytes, and makes a value of them unless it is to be silent.
func (s *slow) reads(a ahead, n int, silent bool, value func(string) string) after {
	if a.place+n > a.end || strings.Contains(a.read[a.place:a.place+n], "y") {
		return s.fail(a.place)
	}
	v := value(s.bytes[a.place : a.place+n])
	if v == "" {
		return s.fail(a.place)
	}
	read := a.read[:a.place] + strings.Repeat("y", n) + a.read[a.place+n:]
	done := after{true, a.place + n, read, a.made, v}
	if silent {
		return done
	}
	return s.make(done, v)
}

func (s *slow) make(done after, value string) after {
	if done.made >= s.nodes {
		panic(api.ErrNodes)
	}
	done.made++
	done.value = value
	return done
}

func slowNumber(bytes string, low bool) int {
	n := 0
	for i := range len(bytes) {
		if low {
			n = n*256 + int(bytes[len(bytes)-1-i])
		} else {
			n = n*256 + int(bytes[i])
		}
	}
	return n
}

func slowSum(bytes string, width int) int {
	sum := 0
	for i := range len(bytes) {
		sum = (sum*31 + int(bytes[i])) % (1 << (8 * width))
	}
	return sum
}

func slowRun(bytes string) string {
	return fmt.Sprintf("\"%x\"", bytes)
}

func (s *slow) try(part string, a ahead, hidden map[byte]hiddenOne, own bool) after {
	if s.fuel <= 0 {
		panic(api.ErrFuel)
	}
	s.fuel--
	switch c := part[0]; c {
	case 'n', 'l':
		return s.reads(a, int(part[1]-'0'), false, func(b string) string { return fmt.Sprint(slowNumber(b, c == 'l')) })
	case '\'':
		return s.reads(a, 1, own, func(b string) string {
			if fmt.Sprintf("%02x", b[0]) != part[1:] {
				return ""
			}
			return "-"
		})
	case 'h', 'k':
		return s.reads(a, int(part[1]-'0'), true, func(b string) string {
			hidden[part[2]] = hiddenOne{slowNumber(b, c == 'k'), len(b)}
			return "hidden"
		})
	case '.':
		return s.reads(a, a.end-a.place, false, slowRun)
	case 'r':
		return s.reads(a, hidden[part[1]].number, false, slowRun)
	case '(':
		return s.tryStruct(part, a)
	case '/':
		return s.tryChoice(part, a)
	case '*':
		return s.tryMany(part, a)
	case 't':
		return s.tryTimes(part, a, hidden[part[1]].number)
	case 'w', '@', 's':
		return s.tryOuter(part, a, hidden)
	default:
		return s.try(s.rules[c], a, nil, false)
	}
}

func (s *slow) tryStruct(part string, a ahead) after {
	hidden := map[byte]hiddenOne{}
	var values []string
	for rest := part[1:]; rest != ")"; {
		var inner string
		inner, rest = cutPart(rest)
		done := s.try(inner, a, hidden, true)
		if !done.fits {
			return done
		}
		if !strings.ContainsRune("'hk", rune(inner[0])) {
			values = append(values, done.value)
		}
		a.place, a.read, a.made = done.place, done.read, done.made
	}
	return s.make(after{true, a.place, a.read, a.made, ""}, "("+strings.Join(values, " ")+")")
}

func (s *slow) tryChoice(part string, a ahead) after {
	first, second := cutPart(part[1:])
	if done := s.try(first, a, nil, false); done.fits {
		return s.make(done, "/0 "+done.value)
	}
	done := s.try(second, a, nil, false)
	if done.fits {
		return s.make(done, "/1 "+done.value)
	}
	return done
}

func (s *slow) tryMany(part string, a ahead) after {
	var values []string
	for {
		done := s.try(part[1:], a, nil, false)
		if !done.fits || done.place == a.place {
			return s.make(after{true, a.place, a.read, a.made, ""}, "["+strings.Join(values, " ")+"]")
		}
		values = append(values, done.value)
		a.place, a.read, a.made = done.place, done.read, done.made
	}
}

func (s *slow) tryTimes(part string, a ahead, times int) after {
	var values []string
	for range times {
		done := s.try(part[2:], a, nil, false)
		if !done.fits {
			return done
		}
		values = append(values, done.value)
		a.place, a.read, a.made = done.place, done.read, done.made
	}
	return s.make(after{true, a.place, a.read, a.made, ""}, "["+strings.Join(values, " ")+"]")
}

// tryOuter tries a window, an at or a summed part.
func (s *slow) tryOuter(part string, a ahead, hidden map[byte]hiddenOne) after {
	told, inside := hidden[part[1]], a
	switch part[0] {
	case 'w':
		if inside.end = a.place + told.number; inside.end > a.end {
			return s.fail(a.place)
		}
	case '@':
		if told.number > len(s.bytes) {
			return s.fail(a.place)
		}
		inside.place, inside.end = told.number, len(s.bytes)
	}
	done := s.try(part[2:], inside, hidden, false)
	switch {
	case !done.fits:
	case part[0] == '@':
		done.place = a.place
	case part[0] == 'w' && done.place != inside.end:
		return s.fail(done.place)
	case part[0] == 's' && slowSum(s.bytes[a.place:done.place], told.width) != told.number:
		return s.fail(a.place)
	}
	return done
}

func slowParse(grammar, bytes string, fuel, nodes int) (tree string, e api.Errno, place int) {
	s := &slow{rules: map[byte]string{}, bytes: bytes, fuel: fuel, nodes: nodes}
	for rule := range strings.SplitSeq(grammar, ";") {
		s.rules[rule[0]] = rule[2:]
	}
	defer func() {
		if r := recover(); r != nil {
			tree, e, place = "", r.(api.Errno), 0
		}
	}()
	done := s.try(s.rules['A'], ahead{end: len(bytes), read: strings.Repeat("n", len(bytes))}, nil, false)
	if !done.fits {
		return "", api.ErrSyntax, s.failed
	}
	if unread := strings.IndexByte(done.read, 'n'); unread >= 0 {
		return "", api.ErrSyntax, unread
	}
	return done.value, api.OK, 0
}

// chance makes up grammars.
type chance struct {
	*rand.Rand
	rules int
}

func (c chance) part(depth int) string {
	leaves := []string{"n1", "l1", "n2", "l2", "'00", "'01", "'02", "."}
	switch pick := c.Intn(10); {
	case depth == 0 || pick < 2:
		return leaves[c.Intn(len(leaves))]
	case pick < 3:
		return string(rune('A' + c.Intn(c.rules)))
	case pick < 5:
		return "/" + c.part(depth-1) + c.part(depth-1)
	case pick < 6:
		return "*" + c.part(depth-1)
	}
	return c.structPart(depth - 1)
}

func (c chance) structPart(depth int) string {
	text, next, waiting := "(", byte('a'), ""
	for range 1 + c.Intn(4) {
		switch c.Intn(3) {
		case 0:
			text += string("hhhk"[c.Intn(4)]) + string("1112"[c.Intn(4)]) + string(next)
			waiting += string(next)
			next++
		case 1:
			if waiting != "" {
				text += c.use(depth, &waiting)
				continue
			}
			fallthrough
		default:
			text += c.part(depth)
		}
	}
	for waiting != "" {
		text += c.use(depth, &waiting)
	}
	if text == "(" {
		text += "n1"
	}
	return text + ")"
}

// use makes a part that uses one of the dependencies that wait, or several.
func (c chance) use(depth int, waiting *string) string {
	i := c.Intn(len(*waiting))
	d := (*waiting)[i : i+1]
	*waiting = (*waiting)[:i] + (*waiting)[i+1:]
	kind := string("rtw@s"[c.Intn(5)])
	if kind == "r" {
		return kind + d
	}
	if kind != "t" && *waiting != "" && c.Intn(2) == 0 {
		return kind + d + c.use(depth, waiting)
	}
	return kind + d + c.part(max(depth-1, 0))
}

func (c chance) grammar() string {
	var rules []string
	for i := range c.rules {
		rules = append(rules, string(rune('A'+i))+"="+c.part(3))
	}
	return strings.Join(rules, ";")
}

// shortTexts are all texts of so many bytes 0 to 3.
func shortTexts(length int) []string {
	texts := []string{""}
	for range length {
		var longer []string
		for _, text := range texts {
			for b := range 4 {
				longer = append(longer, text+string(rune(b)))
			}
		}
		texts = longer
	}
	return texts
}

// TestParseGoesByTheWords holds Parse against slow at made-up grammars, short
// bytes and budgets that are ample and scarce.
func TestParseGoesByTheWords(t *testing.T) {
	var texts []string
	for length := range 5 {
		texts = append(texts, shortTexts(length)...)
	}
	source := rand.New(rand.NewSource(4))
	answers := map[api.Errno]int{}
	for range 200 {
		grammar := chance{source, 1 + source.Intn(3)}.grammar()
		if e, place := Check(grammar); e == api.ErrLong {
			continue
		} else if e != api.OK {
			t.Fatalf("Check(%q) = %d, %d", grammar, e, place)
		}
		for _, bytes := range texts {
			for _, budget := range [][2]int{{400, 100}, {source.Intn(40), 100}, {400, source.Intn(10)}} {
				tree, e, place := slowParse(grammar, bytes, budget[0], budget[1])
				wantParse(t, parsed{grammar, bytes, tree, e, place}, budget[0], budget[1])
				answers[e]++
			}
		}
		if t.Failed() {
			return
		}
	}
	for _, e := range []api.Errno{api.OK, api.ErrFuel, api.ErrNodes, api.ErrSyntax} {
		if answers[e] < 1000 {
			t.Errorf("only %d answers are %d", answers[e], e)
		}
	}
	t.Log(answers)
}
