package press

import (
	"runtime"
	"strings"
	"testing"

	"press/api"
	"press/syntax"
)

// TestParseCostsJustSo: of each grammar and its bytes, how many parts are tried
// and how many values there are at most at a time. With one less of either it
// runs out.
func TestParseCostsJustSo(t *testing.T) {
	for _, c := range []struct {
		grammar, bytes, tree string
		fuel, nodes          int
	}{
		{"A=n1", "a", "97", 1, 1}, {"A=l2", "\x01\x00", "1", 1, 1}, {"A='41", "A", "-", 1, 1}, {"A=.", "ab", `"6162"`, 1, 1}, {"A=.", "", `""`, 1, 1},
		{"A=('41)", "A", "()", 2, 1}, {"A=('41'42)", "AB", "()", 3, 1}, {"A=(n1l2)", "\x05\x01\x02", "(5 513)", 3, 3}, {"A=((n1))", "a", "((97))", 3, 3},
		{"A=B;B=C;C=n1", "a", "97", 3, 1}, {"A=(B);B='41", "A", "(-)", 3, 2},
		{"A=/n1n2", "a", "/0 97", 2, 2}, {"A=/n2n1", "a", "/1 97", 3, 2}, {"A=/'41'42", "B", "/1 -", 3, 2},
		{"A=*n1", "", "[]", 2, 1}, {"A=*n1", "ab", "[97 98]", 4, 3}, {"A=*'41", "AA", "[- -]", 4, 3},
		{"A=(h1ara)", "\x01a", `("61")`, 3, 2}, {"A=(k1ara)", "\x01a", `("61")`, 3, 2}, {"A=(h1ara)", "\x00", `("")`, 3, 2},
		{"A=(h1atan1)", "\x02ab", "([97 98])", 5, 4}, {"A=(h1atan1)", "\x00", "([])", 3, 2}, {"A=(h1ata'41)", "\x02AA", "([- -])", 5, 4},
		{"A=(h1awan1)", "\x01a", "(97)", 4, 2}, {"A=(h1awa'41)", "\x01A", "(-)", 4, 2},
		{"A=(h1a@an1)", "\x01a", "(97)", 4, 2}, {"A=(h1a@a'41)", "\x01A", "(-)", 4, 2},
		{"A=(h1asan1)", "\x01\x01", "(1)", 4, 2}, {"A=(h1asa'01)", "\x01\x01", "(-)", 4, 2},
		// Values that are gone do not count, but there were so many for a time.
		{"A=/(n1n1)n1", "a", "/1 97", 5, 2}, {"A=/(n1n1n1'41)n3", "abc", "/1 6382179", 7, 3}, {"A=(*(n1n1)n1)", "abc", "([(97 98)] 99)", 9, 6},
		{"A=*.", "ab", `["6162"]`, 3, 2}, {"A=**n1", "ab", "[[97 98]]", 7, 4}, {"A=*(n1n1n1'41)", "", "[]", 3, 1}, {"A=**(n1)", "", "[]", 4, 1},
	} {
		wantParse(t, fit(c.grammar, c.bytes, c.tree), c.fuel, c.nodes)
		wantParse(t, parsed{c.grammar, c.bytes, "", api.ErrFuel, 0}, c.fuel-1, api.MaxNodes)
		wantParse(t, parsed{c.grammar, c.bytes, "", api.ErrNodes, 0}, api.MaxFuel, c.nodes-1)
	}
}

// TestParseEndsWhereItRunsOut: what runs out first is told, and nothing that
// would have come later.
func TestParseEndsWhereItRunsOut(t *testing.T) {
	for _, c := range []struct {
		parsed
		fuel, nodes int
	}{
		{parsed{"A=(n1l2)", "abc", "", api.ErrFuel, 0}, 0, 0}, {parsed{"A=(n1l2)", "abc", "", api.ErrFuel, 0}, 1, 0}, {parsed{"A=(n1l2)", "abc", "", api.ErrNodes, 0}, 2, 0},
		{parsed{"A=n1", "a", "", api.ErrNodes, 0}, 1, 0}, {unfit("A=n1", "", 0), 1, 0}, {unfit("A=('41n1)", "xa", 0), 2, 0}, {unfit("A=(n1n1n1)", "ab", 2), 4, 2},
		{parsed{"A=n1", "abc", "", api.ErrNodes, 0}, 1, 0}, {unfit("A=n1", "abc", 1), 1, 1}, {parsed{"A=n2", "a", "", api.ErrFuel, 0}, 0, 9},
		{parsed{"A=(h4atan1)", "\xff\xff\xff\xffabc", "", api.ErrSyntax, 7}, 7, 3}, {parsed{"A=(h4ata.)", "\xff\xff\xff\xff", "", api.ErrFuel, 0}, 100, 100},
		{parsed{"A=(h4ata.)", "\xff\xff\xff\xff", "", api.ErrNodes, 0}, api.MaxFuel, 100}, {parsed{"A=/(.A)n1", "", "", api.ErrNodes, 0}, api.MaxFuel, api.MaxNodes},
	} {
		wantParse(t, c.parsed, c.fuel, c.nodes)
	}
}

func TestParseBudgets(t *testing.T) {
	full, over := strings.Repeat("x", 4000), strings.Repeat("x", 4001)
	for _, c := range []struct {
		bytes       string
		fuel, nodes int
		e           api.Errno
	}{
		{full, 1, 1, api.OK}, {full, 100000, 10000, api.OK}, {over, 1, 1, api.ErrBudget}, {over, -1, -1, api.ErrBudget},
		{"", -1, 1, api.ErrBudget}, {"", 100001, 1, api.ErrBudget}, {"", 1, -1, api.ErrBudget}, {"", 1, 10001, api.ErrBudget},
		{"", -1 << 63, 1, api.ErrBudget}, {"", 1<<63 - 1, 1, api.ErrBudget}, {"", 1, -1 << 63, api.ErrBudget}, {"", 1, 1<<63 - 1, api.ErrBudget},
		{"", 0, 0, api.ErrFuel}, {"", 0, 10000, api.ErrFuel}, {"", 100000, 0, api.ErrNodes}, {"", 0, -1, api.ErrBudget}, {"", -1, 0, api.ErrBudget},
	} {
		tree, e, place := Parse("A=.", c.bytes, c.fuel, c.nodes)
		if e != c.e || place != 0 || (e == api.OK) != (tree != "") {
			t.Errorf("Parse of %d bytes with %d and %d = %.20q, %d, %d, want %d", len(c.bytes), c.fuel, c.nodes, tree, e, place, c.e)
		}
	}
}

// TestParseChecksFirst: what Check says of the grammar stands ahead of all else.
func TestParseChecksFirst(t *testing.T) {
	over := strings.Repeat("x", 4001)
	for _, grammar := range []string{"", "A", "A=n5", "A=B", "A=n1;A=n1", "A=ra", "A=(h1a)", "A=(h1a*ra)", fullGrammar() + ";", strings.Repeat("x", 401)} {
		e, place := Check(grammar)
		for _, bytes := range []string{"", "abc", over} {
			wantParse(t, parsed{grammar, bytes, "", e, place}, -1, -1)
			wantParse(t, parsed{grammar, bytes, "", e, place}, 0, 0)
			wantParse(t, parsed{grammar, bytes, "", e, place}, api.MaxFuel, api.MaxNodes)
		}
	}
}

// TestParseEnds: grammars that come to themselves, or branch without end.
func TestParseEnds(t *testing.T) {
	long := strings.Repeat("a", api.MaxBytes)
	for _, c := range []parsed{
		{"A=A", "", "", api.ErrFuel, 0}, {"A=B;B=A", "", "", api.ErrFuel, 0}, {"A=(A)", "", "", api.ErrFuel, 0}, {"A=*A", "", "", api.ErrFuel, 0},
		{"A=/AA", "", "", api.ErrFuel, 0}, {"A=/(n1A)(n1A)", long[:50], "", api.ErrFuel, 0}, {"A=(n1A)", long, "", api.ErrSyntax, 4000},
		{"A=*A", long, "", api.ErrFuel, 0}, {"A=(h1a@aA)", long, "", api.ErrSyntax, 97}, {"A=*/(.'00)/(.'00)n1", long, "", api.ErrNodes, 0},
		{"A=(BB);B=/('61B'62)/('61B'63)'64", long[:60], "", api.ErrFuel, 0},
	} {
		wantParse(t, c, api.MaxFuel, api.MaxNodes)
	}
	deep := strings.Repeat("/0 (97 ", 2999) + "/1 97" + strings.Repeat(")", 2999)
	wantParse(t, fit("A=/(n1A)n1", long[:3000], deep), api.MaxFuel, api.MaxNodes)
}

// TestOtherPanicsGoOn: a fault of the program is no answer of Parse.
func TestOtherPanicsGoOn(t *testing.T) {
	defer func() {
		if _, ok := recover().(runtime.Error); !ok {
			t.Error("the panic did not go on")
		}
	}()
	parse(&syntax.Grammar{}, "", 1, 1)
}
