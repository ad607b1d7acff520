package press

import (
	"strings"
	"testing"

	"press/api"
)

// checked is a grammar and what Check is to answer.
type checked struct {
	grammar string
	e       api.Errno
	place   int
}

func wantChecks(t *testing.T, cases []checked) {
	t.Helper()
	for _, c := range cases {
		if e, place := Check(c.grammar); e != c.e || place != c.place {
			t.Errorf("Check(%.80q) = %d, %d, want %d, %d", c.grammar, e, place, c.e, c.place)
		}
	}
}

const eightRules = "A=n1;B=n1;C=n1;D=n1;E=n1;F=n1;G=n1;H=n1"

// fullGrammar is a grammar of the greatest length.
func fullGrammar() string {
	return "A=(" + strings.Repeat("l4", 198) + ")"
}

func TestCheckExamples(t *testing.T) {
	wantChecks(t, []checked{
		{"A=n2", api.OK, 0}, {"A=(h1ara);B=A", api.OK, 0},
		{"", api.ErrForm, 0}, {"A=n5", api.ErrForm, 3}, {"B=n1", api.ErrForm, 0},
		{"A=()", api.ErrForm, 3}, {"A=n1;", api.ErrForm, 5},
		{"A=B", api.ErrRule, 2}, {"A=n1;A=n1", api.ErrRule, 5},
		{"A=ra", api.ErrBound, 3}, {"A=(rah1a)", api.ErrBound, 4},
		{"A=(h1a)", api.ErrBound, 5}, {"A=(h1ah1ara)", api.ErrBound, 8},
		{"A=(h1arara)", api.ErrBound, 9}, {"A=(h1a*ra)", api.ErrBound, 5},
		{"A=h1a", api.ErrBound, 4},
	})
}

func TestCheckTakesGrammars(t *testing.T) {
	for _, grammar := range []string{
		"A=n1", "A=n4", "A=l1", "A=l4", "A='00", "A='9a", "A='ff", "A=.",
		"A=(n1)", "A=(n1l2'0f.)", "A=/n1.", "A=*n1", "A=*/'01n1", "A=///n1n1n1n1",
		"A=A", "A=B;B=A", "A=H;H=n1", "A=n1;H=n1;B=n1;G=(AHB)", eightRules,
		"A=(h1ara)", "A=(k4hrh)", "A=(h1atan1)", "A=(h1awan1)", "A=(h1a@an1)", "A=(h1asan1)",
		"A=(h1ah1bh1ch1dwa@bscrd)", "A=(h1dh1ch1bh1awa@bscrd)",
		"A=(h1an1n1ra)", "A=(h1ah2bk3ck4dh1eh1fh1gh1hrhrgrfrerdrcrbra)",
		"A=(h1a(h1ara)ra)", "A=(h1ata(h1ara))", "A=(h1awa(h1ara))", "A=*(h1ara)", "A=/(h1ara)(k1ara)",
		"A=(h1ara);B=(h1ara)", "A=(h1araB);B=(h1bA@b.)", fullGrammar(),
	} {
		wantChecks(t, []checked{{grammar, api.OK, 0}})
	}
}

func TestCheckLength(t *testing.T) {
	full := fullGrammar()
	if len(full) != 400 || api.MaxGrammar != 400 {
		t.Fatalf("the longest grammar has %d bytes, the bound is %d", len(full), api.MaxGrammar)
	}
	wantChecks(t, []checked{
		{full, api.OK, 0}, {full + ";", api.ErrLong, 0}, {full + "x", api.ErrLong, 0},
		{strings.Repeat("x", 400), api.ErrForm, 0}, {strings.Repeat("x", 401), api.ErrLong, 0},
		{"A=" + strings.Repeat("(", 398), api.ErrForm, 400}, {"A=" + strings.Repeat("(", 399), api.ErrLong, 0},
		{"A=" + strings.Repeat("*", 398), api.ErrForm, 400}, {"A=" + strings.Repeat("*", 397) + ".", api.OK, 0},
		{"A=" + strings.Repeat("/", 398), api.ErrForm, 400}, {"A=" + strings.Repeat("*", 397) + "B", api.ErrRule, 399},
		{"A=" + strings.Repeat("sa", 198) + "n1", api.ErrBound, 3},
		{strings.Repeat("A=n1;", 2000000), api.ErrLong, 0}, {strings.Repeat("\x00", 5000000), api.ErrLong, 0},
	})
}

func TestCheckRulesForm(t *testing.T) {
	wantChecks(t, []checked{
		{eightRules, api.OK, 0}, {eightRules + ";", api.ErrForm, 39}, {eightRules + ";A=n1", api.ErrForm, 39},
		{eightRules + ";I=n1", api.ErrForm, 39}, {eightRules + "n1", api.ErrForm, 39}, {eightRules[:35] + "A=n1", api.ErrRule, 35},
		{"A", api.ErrForm, 1}, {"A=", api.ErrForm, 2}, {"=n1", api.ErrForm, 0}, {"H=n1", api.ErrForm, 0},
		{"@=n1", api.ErrForm, 0}, {"I=n1", api.ErrForm, 0}, {"A=n1;@=n1", api.ErrForm, 5}, {"A=n1;I=n1", api.ErrForm, 5},
		{"a=n1", api.ErrForm, 0}, {"A==n1", api.ErrForm, 2}, {"An1", api.ErrForm, 1}, {"A=n1;B", api.ErrForm, 6},
		{"A=n1;;B=n1", api.ErrForm, 5}, {";A=n1", api.ErrForm, 0}, {"A=n1,B=n1", api.ErrForm, 4},
		{"A=n1B=n1", api.ErrForm, 4}, {"A=n1n1", api.ErrForm, 4}, {"A=AB", api.ErrForm, 3},
		{" A=n1", api.ErrForm, 0}, {"A =n1", api.ErrForm, 1}, {"A= n1", api.ErrForm, 2}, {"A=n 1", api.ErrForm, 3},
		{"A=n1 ", api.ErrForm, 4}, {"A=n1; B=n1", api.ErrForm, 5}, {"A=n1\n", api.ErrForm, 4}, {"A=(n1 n1)", api.ErrForm, 5},
		{"A=I", api.ErrForm, 2}, {"A=Z", api.ErrForm, 2},
	})
}

func TestCheckPartsForm(t *testing.T) {
	wantChecks(t, []checked{
		{"A=n", api.ErrForm, 3}, {"A=n0", api.ErrForm, 3}, {"A=l5", api.ErrForm, 3}, {"A=la", api.ErrForm, 3},
		{"A=n12", api.ErrForm, 4}, {"A=N1", api.ErrForm, 2}, {"A=1", api.ErrForm, 2},
		{"A='", api.ErrForm, 3}, {"A='0", api.ErrForm, 4}, {"A='0g", api.ErrForm, 4}, {"A='g0", api.ErrForm, 3},
		{"A='0A", api.ErrForm, 4}, {"A='A0", api.ErrForm, 3}, {"A='/0", api.ErrForm, 3}, {"A=':0", api.ErrForm, 3},
		{"A='`0", api.ErrForm, 3}, {"A='000", api.ErrForm, 5},
		{"A=(", api.ErrForm, 3}, {"A=()", api.ErrForm, 3}, {"A=(n1", api.ErrForm, 5}, {"A=(n1;", api.ErrForm, 5},
		{"A=(n1))", api.ErrForm, 6}, {"A=)", api.ErrForm, 2}, {"A=((n1)", api.ErrForm, 7}, {"A=(n1();", api.ErrForm, 6},
		{"A=/", api.ErrForm, 3}, {"A=/n1", api.ErrForm, 5}, {"A=(/n1)", api.ErrForm, 6}, {"A=/n1n1n1", api.ErrForm, 7},
		{"A=*", api.ErrForm, 3}, {"A=*;", api.ErrForm, 3}, {"A=(*)", api.ErrForm, 4}, {"A=..", api.ErrForm, 3},
		{"A=(h", api.ErrForm, 4}, {"A=(ha", api.ErrForm, 4}, {"A=(h0a", api.ErrForm, 4}, {"A=(h1", api.ErrForm, 5},
		{"A=(h1A", api.ErrForm, 5}, {"A=(h1i", api.ErrForm, 5}, {"A=(h1`", api.ErrForm, 5}, {"A=(k5a", api.ErrForm, 4}, {"A=(k1i", api.ErrForm, 5},
		{"A=r", api.ErrForm, 3}, {"A=ri", api.ErrForm, 3}, {"A=r1a", api.ErrForm, 3}, {"A=ran1", api.ErrForm, 4},
		{"A=t", api.ErrForm, 3}, {"A=tin1", api.ErrForm, 3}, {"A=ta", api.ErrForm, 4}, {"A=tan1n1", api.ErrForm, 6},
		{"A=w", api.ErrForm, 3}, {"A=wa", api.ErrForm, 4}, {"A=wa)", api.ErrForm, 4}, {"A=@", api.ErrForm, 3},
		{"A=@a", api.ErrForm, 4}, {"A=@An1", api.ErrForm, 3}, {"A=s", api.ErrForm, 3}, {"A=sa", api.ErrForm, 4},
		{"A=\x00", api.ErrForm, 2}, {"A=\xff", api.ErrForm, 2}, {"A=\xc3\xa4", api.ErrForm, 2}, {"\x00", api.ErrForm, 0},
		{"A=n\xb1", api.ErrForm, 3}, {"A=n1\x00", api.ErrForm, 4},
	})
}

func TestCheckRules(t *testing.T) {
	wantChecks(t, []checked{
		{"A=n1;B=n1;A=n1", api.ErrRule, 10}, {"A=n1;B=n1;B=n1;A=n1", api.ErrRule, 10},
		{"A=H", api.ErrRule, 2}, {"A=(n1*C)", api.ErrRule, 6}, {"A=/n1D", api.ErrRule, 5}, {"A=(h1ataB)", api.ErrRule, 8},
		{"A=(h1awaB)", api.ErrRule, 8}, {"A=(h1a@aB)", api.ErrRule, 8}, {"A=(h1asaB)", api.ErrRule, 8},
		{"A=n1;B=(AC)", api.ErrRule, 9}, {"A=(BC);B=n1", api.ErrRule, 4}, {"A=(CD)", api.ErrRule, 3},
		{"A=C;A=n1", api.ErrRule, 2}, {"A=n1;A=C", api.ErrRule, 5}, {"A=n1;B=C;B=n1", api.ErrRule, 7},
	})
}

func TestCheckHidden(t *testing.T) {
	wantChecks(t, []checked{
		// No part of a struct itself.
		{"A=h1a", api.ErrBound, 4}, {"A=k4h", api.ErrBound, 4}, {"A=*h1a", api.ErrBound, 5}, {"A=/h1an1", api.ErrBound, 5},
		{"A=(*h1ara)", api.ErrBound, 6}, {"A=(/n1h1ara)", api.ErrBound, 8}, {"A=(h1atah1brb)", api.ErrBound, 10},
		{"A=(h1awah1brb)", api.ErrBound, 10}, {"A=(h1a@ak1brb)", api.ErrBound, 10}, {"A=(h1asah1brb)", api.ErrBound, 10},
		{"A=(Bra);B=h1a", api.ErrBound, 5},
		// Its d stands ahead in the struct already.
		{"A=(h1ak1ara)", api.ErrBound, 8}, {"A=(h1arah1ara)", api.ErrBound, 10}, {"A=(h1ah1bh1arbra)", api.ErrBound, 11},
		// Used by none.
		{"A=(h1an1)", api.ErrBound, 5}, {"A=(h1arb)", api.ErrBound, 5}, {"A=(h1a(h1ara))", api.ErrBound, 5},
		{"A=(h1a/ran1)", api.ErrBound, 5}, {"A=(h1a(ra))", api.ErrBound, 5}, {"A=(h1ah1btarb)", api.ErrBound, 8},
		{"A=(h1aB);B=ra", api.ErrBound, 5}, {"A=(h1ah1bra)", api.ErrBound, 8}, {"A=(h1a(k1bn1)ra)", api.ErrBound, 9},
		{"A=(h1arah1b)", api.ErrBound, 10}, {"A=(h1ah1a)", api.ErrBound, 5},
	})
}

func TestCheckUses(t *testing.T) {
	wantChecks(t, []checked{
		// In no struct.
		{"A=ra", api.ErrBound, 3}, {"A=tan1", api.ErrBound, 3}, {"A=wan1", api.ErrBound, 3}, {"A=@an1", api.ErrBound, 3},
		{"A=san1", api.ErrBound, 3}, {"A=*ra", api.ErrBound, 4}, {"A=/n1rb", api.ErrBound, 6}, {"A=wh(n1)", api.ErrBound, 3},
		{"A=(h1araB);B=ra", api.ErrBound, 14}, {"A=(h1ah1bwatbrb)", api.ErrBound, 14}, {"A=(h1ara*ra)", api.ErrBound, 10},
		// No hidden part of its d ahead in its struct.
		{"A=(ra)", api.ErrBound, 4}, {"A=(rah1a)", api.ErrBound, 4}, {"A=(wah1a)", api.ErrBound, 4}, {"A=(rah1ara)", api.ErrBound, 4},
		{"A=(h1ararb)", api.ErrBound, 9}, {"A=(h1ata(ra))", api.ErrBound, 10}, {"A=(h1awa(ra))", api.ErrBound, 10},
		{"A=(h1asaran1)", api.ErrBound, 9}, {"A=(h1bwarb)", api.ErrBound, 7}, {"A=(h1a(h1brb)rarb)", api.ErrBound, 16},
		{"A=((h1ara)ra)", api.ErrBound, 11}, {"A=(h1ara);B=(ra)", api.ErrBound, 14},
		// Another part uses its d ahead of it.
		{"A=(h1arara)", api.ErrBound, 9}, {"A=(h1atan1ra)", api.ErrBound, 11}, {"A=(h1awara)", api.ErrBound, 9},
		{"A=(h1a@asan1)", api.ErrBound, 9}, {"A=(h1ah1bwarbsbn1)", api.ErrBound, 14},
	})
}

// TestCheckOrder: where several errors apply, the one named first is told,
// and of one error the first place.
func TestCheckOrder(t *testing.T) {
	wantChecks(t, []checked{
		{strings.Repeat("A=ra;", 80) + "A=B", api.ErrLong, 0}, {"A=ra;A=B;", api.ErrForm, 9}, {"A=(raB)x", api.ErrForm, 7},
		{"A=h1a;A=n0", api.ErrForm, 9}, {"A=B;A=(", api.ErrForm, 7}, {"A=n9;A=(", api.ErrForm, 3},
		{"A=(h1aB)", api.ErrRule, 6}, {"A=raA", api.ErrForm, 4}, {"A=ra;B=C", api.ErrRule, 7}, {"A=ra;B=n1;B=rb", api.ErrRule, 10},
		{"A=ra;B=rb", api.ErrBound, 3}, {"A=(h1a(rb))", api.ErrBound, 5}, {"A=(h1ara(rb)h1c)", api.ErrBound, 10},
		{"A=(h1a(h1b)rc)", api.ErrBound, 5}, {"A=(h1bh1a)", api.ErrBound, 5}, {"A=(h1ah1b)", api.ErrBound, 5},
	})
}
