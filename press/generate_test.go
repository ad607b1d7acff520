package press

import (
	"strings"
	"testing"

	"press/api"
)

// generated is a grammar, a tree, and what Generate is to answer.
type generated struct {
	grammar, tree string
	bytes         string
	e             api.Errno
}

// gives is a tree of which bytes come.
func gives(grammar, tree, bytes string) generated {
	return generated{grammar, tree, bytes, api.OK}
}

// noValue is a tree that is none of the grammar's.
func noValue(grammar, tree string) generated {
	return generated{grammar, tree, "", api.ErrValue}
}

// other is a tree whose bytes are parsed as another.
func other(grammar, tree string) generated {
	return generated{grammar, tree, "", api.ErrOther}
}

func wantGenerate(t *testing.T, c generated, most int) {
	t.Helper()
	bytes, e, place := Generate(c.grammar, c.tree, most)
	if bytes != c.bytes || e != c.e || place != 0 {
		t.Errorf("Generate(%.80q, %.80q, %d) = %.40q, %d, %d, want %.40q, %d, 0",
			c.grammar, c.tree, most, bytes, e, place, c.bytes, c.e)
	}
}

// wantGenerates holds the answers at ample room. Where bytes come, Parse must
// give the tree back (P8), and they come with just as much room, not with less.
func wantGenerates(t *testing.T, cases []generated) {
	t.Helper()
	for _, c := range cases {
		wantGenerate(t, c, api.MaxBytes)
		if c.e != api.OK {
			continue
		}
		wantParse(t, fit(c.grammar, c.bytes, c.tree), api.MaxFuel, api.MaxNodes)
		wantGenerate(t, c, len(c.bytes))
		if len(c.bytes) > 0 {
			wantGenerate(t, generated{c.grammar, c.tree, "", api.ErrFull}, len(c.bytes)-1)
		}
	}
}

func runOf(length int) string {
	return `"` + strings.Repeat("7e", length) + `"`
}

func listOf(length int, value string) string {
	return "[" + strings.TrimSuffix(strings.Repeat(value+" ", length), " ") + "]"
}

func TestGenerateExamples(t *testing.T) {
	wantGenerate(t, gives("A=(h1a@a(h1brb)n1)", `(("41") 7)`, "\x02\x07\x01\x41"), 99)
	wantGenerate(t, gives("A=(h1ah1bwasb*n1)", "([1 1])", "\x02\x20\x01\x01"), 99)
	wantGenerate(t, noValue("A=n1", "256"), 99)
	wantGenerate(t, noValue("A=n1", "(1)"), 99)
	wantGenerate(t, generated{"A=n1", "5", "", api.ErrFull}, 0)
	wantGenerate(t, other("A=/n1'05", "/1 -"), 99)
	if bytes, e, place := Generate("A=n1", "01", 99); bytes != "" || e != api.ErrTree || place != 1 {
		t.Errorf("Generate of 01: %q, %d, %d", bytes, e, place)
	}
}

func TestGenerateNumbers(t *testing.T) {
	wantGenerates(t, []generated{
		gives("A=n1", "0", "\x00"), gives("A=n1", "255", "\xff"), noValue("A=n1", "256"), noValue("A=n1", "4294967295"),
		gives("A=n2", "258", "\x01\x02"), gives("A=n2", "65535", "\xff\xff"), noValue("A=n2", "65536"), gives("A=n2", "7", "\x00\x07"),
		gives("A=n3", "66051", "\x01\x02\x03"), gives("A=n3", "16777215", "\xff\xff\xff"), noValue("A=n3", "16777216"),
		gives("A=n4", "16909060", "\x01\x02\x03\x04"), gives("A=n4", "4294967295", "\xff\xff\xff\xff"), gives("A=n4", "0", "\x00\x00\x00\x00"),
		gives("A=l1", "255", "\xff"), noValue("A=l1", "256"), gives("A=l2", "513", "\x01\x02"), noValue("A=l2", "65536"), gives("A=l2", "7", "\x07\x00"),
		gives("A=l3", "197121", "\x01\x02\x03"), noValue("A=l3", "16777216"), gives("A=l4", "67305985", "\x01\x02\x03\x04"),
		noValue("A=n1", "-"), noValue("A=n1", `"05"`), noValue("A=n1", "()"), noValue("A=n1", "[]"), noValue("A=n1", "[5]"), noValue("A=n1", "/0 5"), noValue("A=l2", "(5)"),
	})
}

func TestGenerateFixed(t *testing.T) {
	wantGenerates(t, []generated{
		gives("A='41", "-", "A"), gives("A='00", "-", "\x00"), gives("A='ff", "-", "\xff"), noValue("A='41", "65"), noValue("A='41", "()"), noValue("A='41", `"41"`),
		// A struct's own fixed byte has no value there; elsewhere it has one.
		gives("A=('41)", "()", "A"), noValue("A=('41)", "(-)"), gives("A=('41n1'42)", "(7)", "A\x07B"), noValue("A=('41n1'42)", "(- 7 -)"),
		gives("A=(B'42);B='41", "(-)", "AB"), noValue("A=(B'42);B='41", "()"), gives("A=(*'41)", "([- -])", "AA"), gives("A=(/'41'42)", "(/1 -)", "B"),
		gives("A=(h1ata'41)", "([- -])", "\x02AA"), gives("A=(h1awa'41)", "(-)", "\x01A"), noValue("A=(h1awa'41)", "()"),
		gives("A=(h1a@a'41)", "(-)", "\x01A"), gives("A=(h1asa'05)", "(-)", "\x05\x05"),
	})
}

func TestGenerateStruct(t *testing.T) {
	wantGenerates(t, []generated{
		gives("A=(n1n1n1)", "(97 98 99)", "abc"), gives("A=((n1)((n1)))", "((97) ((98)))", "ab"), gives("A=((('00)))", "((()))", "\x00"),
		noValue("A=(n1)", "()"), noValue("A=(n1)", "(1 2)"), noValue("A=(n1n1)", "(1)"), noValue("A=(n1n1)", "(1 2 3)"), noValue("A=(n1n1)", "(1 256)"), noValue("A=(n1n1)", "(256 1)"),
		noValue("A=(n1)", "[1]"), noValue("A=(n1)", "1"), noValue("A=(n1)", "/0 1"), noValue("A=(n1)", "((1))"), noValue("A=((n1)n1)", "(1 (1))"),
		// Its hidden parts have no value in it.
		noValue("A=(h1ara)", `(0 "")`), noValue("A=(h1ara)", "()"), noValue("A=(k2ara)", "(-)"),
	})
}

func TestGenerateChoice(t *testing.T) {
	wantGenerates(t, []generated{
		gives("A=/n1'41", "/0 65", "A"), gives("A=/'41n1", "/1 66", "B"), gives("A=/'41/'42'43", "/1 /1 -", "C"), gives("A=/('41A)n1", "/0 (/0 (/1 66))", "AAB"),
		noValue("A=/n1'05", "5"), noValue("A=/n1'05", "-"), noValue("A=/n1'05", "/1 5"), noValue("A=/n1'05", "/0 -"), noValue("A=/n1'05", "/0 256"), noValue("A=/n1'05", "(0 5)"),
		noValue("A=/n1/n2n3", "/1 5"), noValue("A=/n1n1", "/0 /0 5"),
		// Parse takes the first that fits.
		other("A=/n1'05", "/1 -"), other("A=/n1n1", "/1 5"), gives("A=/'05n1", "/1 6", "\x06"), other("A=/'05n1", "/1 5"),
	})
}

func TestGenerateMany(t *testing.T) {
	wantGenerates(t, []generated{
		gives("A=*n1", "[]", ""), gives("A=*n1", "[97 98 99]", "abc"), gives("A=*n2", "[1 2]", "\x00\x01\x00\x02"), gives("A=*'41", "[- -]", "AA"), gives("A=(*'41n1)", "([-] 66)", "AB"),
		gives("A=*/'01n1", "[/0 - /1 2 /0 -]", "\x01\x02\x01"), gives("A=**n1", "[[97 98]]", "ab"), gives("A=**n1", "[]", ""),
		noValue("A=*n1", "(1)"), noValue("A=*n1", "1"), noValue("A=*n1", "[1 -]"), noValue("A=*n1", "[- 1]"), noValue("A=*n1", "[1 [2]]"), noValue("A=*n1", `""`),
		// Parse takes as many as it goes, and none of no bytes.
		other("A=(*n1n1)", "([1] 2)"), other("A=(*'41n1)", "([] 65)"), other("A=*.", `[""]`), other("A=*.", `["41" "42"]`), other("A=**n1", "[[]]"), other("A=**n1", "[[97] [98]]"),
	})
}

func TestGenerateRule(t *testing.T) {
	wantGenerates(t, []generated{
		gives("A=B;B=n1", "97", "a"), gives("A=(BB);B=(n1)", "((97) (98))", "ab"), gives("A=H;H=C;C=*n1", "[97]", "a"), gives("A=/(n1A)n1", "/0 (97 /0 (98 /1 99))", "abc"),
		gives("A=B;B=C;C=D;D=E;E=F;F=G;G=H;H=n1", "97", "a"), gives("A=(B);B=C;C=D;D=E;E=F;F=G;G=H;H=n1", "(97)", "a"), gives("A=n1;B=B", "97", "a"),
		gives("A=B;B=C;C=D;D=E;E=F;F=G;G=H;H=/('41A)'42", "/0 (/0 (/1 -))", "AAB"), gives("A=H;H=G;G=F;F=E;E=D;D=C;C=B;B=*('41A)", "[([])]", "A"),
		noValue("A=B;B=n1", "-"), noValue("A=B;B=n1", "256"),
		// Rules that come to themselves through rules alone have no value.
		noValue("A=A", "5"), noValue("A=A", "-"), noValue("A=B;B=A", "5"), noValue("A=B;B=B", "()"), noValue("A=B;B=C;C=D;D=E;E=F;F=G;G=H;H=B", "[]"), noValue("A=(A)", "((((()))))"),
		noValue("A=/BB;B=B", "/0 /0 5"),
		// Where another part stands between, they have values, but Parse may not come to an end.
		noValue("A=(A)", "()"), other("A=*A", "[]"), gives("A=/'41(n1A)", "/1 (66 /0 -)", "BA"), noValue("A=/'41B;B=B", "/1 -"), gives("A=/'41B;B=B", "/0 -", "A"),
		gives("A=*B;B=C;C='41", "[- -]", "AA"), gives("A=(h1awaB);B=/A'41", "(/1 -)", "\x01A"), gives("A=(h1awaB);B=/('42A)'41", "(/0 ((/1 -)))", "\x03B\x01A"),
	})
}

func TestGenerateHiddenAndRun(t *testing.T) {
	wantGenerates(t, []generated{
		gives("A=(h1ara)", `("")`, "\x00"), gives("A=(h1ara)", `("0ff0ab")`, "\x03\x0f\xf0\xab"), gives("A=(h2ara)", `("61")`, "\x00\x01a"), gives("A=(h3ara)", `("61")`, "\x00\x00\x01a"),
		gives("A=(h4ara)", `("61")`, "\x00\x00\x00\x01a"), gives("A=(k1ara)", `("61")`, "\x01a"), gives("A=(k2ara)", `("61")`, "\x01\x00a"), gives("A=(k3ara)", `("61")`, "\x01\x00\x00a"),
		gives("A=(k4ara)", `("61")`, "\x01\x00\x00\x00a"), gives("A=(h2ara)", "("+runOf(258)+")", "\x01\x02"+strings.Repeat("~", 258)), gives("A=(k2ara)", "("+runOf(258)+")", "\x02\x01"+strings.Repeat("~", 258)),
		gives("A=(h1ah1bn1rbra)", `(9 "6162" "63")`, "\x01\x02\x09abc"), gives("A=(h1ah1brarb)", `("61" "6263")`, "\x01\x02abc"), gives("A=(h1an1ra)", `(7 "61")`, "\x01\x07a"),
		// Each struct has hidden numbers of its own, each time that it is written.
		gives("A=(h1aBra);B=(h1ara)", `(("7879") "7a")`, "\x01\x02xyz"), gives("A=*(h1ara)", `[("61") ("") ("6263")]`, "\x01a\x00\x02bc"),
		noValue("A=(h1ara)", "(5)"), noValue("A=(h1ara)", "([])"), noValue("A=(h1ara)", `(["61"])`), noValue("A=(h1ara)", `"61"`),
	})
}

func TestGenerateRest(t *testing.T) {
	wantGenerates(t, []generated{
		gives("A=.", `""`, ""), gives("A=.", `"6162"`, "ab"), gives("A=(n1.)", `(7 "00")`, "\x07\x00"), noValue("A=.", "5"), noValue("A=.", "[]"), noValue("A=.", "-"),
		other("A=(.n1)", `("61" 98)`), other("A=(..)", `("61" "62")`), gives("A=(..)", `("61" "")`, "a"), gives("A=.", runOf(3999), strings.Repeat("~", 3999)),
	})
}

func TestGenerateTimes(t *testing.T) {
	wantGenerates(t, []generated{
		gives("A=(h1atan1)", "([])", "\x00"), gives("A=(h1atan1)", "([97 98 99])", "\x03abc"), gives("A=(h1atan2)", "([1 2])", "\x02\x00\x01\x00\x02"), gives("A=(k2atan1n1)", "([97] 98)", "\x01\x00ab"),
		gives("A=(h1ata(h1ara))", `([("61") ("")])`, "\x02\x01a\x00"), gives("A=(h1ata.)", `(["6162" "" ""])`, "\x03ab"), gives("A=(h1ah1btan1tbn2)", "([97] [25187 1])", "\x01\x02abc\x00\x01"),
		noValue("A=(h1atan1)", "((97))"), noValue("A=(h1atan1)", "(97)"), noValue("A=(h1atan1)", "([97 -])"), noValue("A=(h1atan1)", "([97] 98)"), other("A=(h1ata.)", `(["" "61"])`),
	})
}

func TestGenerateWindow(t *testing.T) {
	wantGenerates(t, []generated{
		gives("A=(h1awan1)", "(97)", "\x01a"), gives("A=(h1awa*n1)", "([])", "\x00"), gives("A=(h1awa*n1n1)", "([97 98] 99)", "\x02abc"), gives("A=(h1awa.n1)", `("6162" 99)`, "\x02abc"),
		gives("A=(k2awan4)", "(1)", "\x04\x00\x00\x00\x00\x01"), gives("A=(h1ah1bwawb.)", `("6162")`, "\x02\x02ab"), gives("A=(h1ah1bwarb)", `("6162")`, "\x02\x02ab"),
		gives("A=(h1ah1bwatbn2)", "([1 2])", "\x04\x02\x00\x01\x00\x02"), gives("A=(h1awa(h1bwb.n1)n1)", `(("6162" 99) 100)`, "\x04\x02abcd"),
		// How long it is, what waits not counted.
		gives("A=(h1awa(h1b@bn1n1)n1)", "((9 8) 7)", "\x02\x04\x08\x07\x09"), gives("A=(h1ah1bwa@bn1n1)", "(9 7)", "\x00\x03\x07\x09"),
		noValue("A=(h1awan1)", "((97))"), noValue("A=(h1awan1)", "(256)"), noValue("A=(h1awa*n1)", "(97)"),
	})
}

func TestGenerateAt(t *testing.T) {
	wantGenerates(t, []generated{
		gives("A=(h1a@an1n1)", "(8 7)", "\x02\x07\x08"), gives("A=(h1a@an1)", "(8)", "\x01\x08"), gives("A=(n1k2a@a'41n1)", "(120 - 121)", "x\x04\x00yA"), gives("A=(h1a@a*n1n1)", "([98 99] 97)", "\x02abc"),
		gives("A=(h1a@a.)", `("")`, "\x01"), gives("A=(h1a@a(h1brb)n1)", `(("41") 7)`, "\x02\x07\x01A"),
		// In the order in which they are met, not in that of their hidden numbers.
		gives("A=(h1ah1b@an1@bn1)", "(8 9)", "\x02\x03\x08\x09"), gives("A=(h1ah1b@bn1@an1)", "(8 9)", "\x03\x02\x08\x09"), gives("A=(h1a@an1h1b@bn2n1)", "(1 515 3)", "\x03\x04\x03\x01\x02\x03"),
		gives("A=(h1aB@an1n1);B=(h1b@bn1n1)", "((1 2) 3 4)", "\x05\x04\x02\x04\x01\x03"), gives("A=(h1a@an1Bn1);B=(h1b@bn1n1)", "(1 (2 3) 4)", "\x04\x05\x03\x04\x01\x02"),
		// What is met in what waits is behind the others that wait.
		gives("A=(h1a@a(h1b@bn1n1)n1)", "((9 8) 7)", "\x02\x07\x04\x08\x09"), gives("A=(h1ah1c@a(h1b@bn1n1)@cn1)", "((9 8) 7)", "\x02\x04\x05\x08\x07\x09"),
		gives("A=(h1ah1b@a(h1a@an1)@b(h1a@an1))", "((5) (6))", "\x02\x03\x04\x05\x05\x06"), gives("A=/(n1h1a@aA)'ff", "/0 (1 /0 (2 /0 (3 /1 -)))", "\x01\x02\x02\x04\x03\x06\xff"),
		// An at part in another, a window or a list.
		gives("A=(h1ah1b@a@bn1n1)", "(9 8)", "\x03\x03\x08\x09"), gives("A=(h1ah1bh1c@a@b@cn1)", "(9)", "\x03\x03\x03\x09"), gives("A=(h1ah1b@awb*n1n1)", "([8 9] 7)", "\x03\x02\x07\x08\x09"),
		gives("A=(h1ah1b@arbn1)", `("0809" 7)`, "\x03\x02\x07\x08\x09"), gives("A=(h1ah1b@atb(h1c@cn1)n1)", "([(8) (9)] 7)", "\x03\x02\x07\x05\x06\x08\x09"),
		gives("A=(h1ata(h1b@bn1))", "([(8) (9)])", "\x02\x03\x04\x08\x09"), gives("A=(h1ata(h1bh1c@brcn1))", `([("41" 1) ("4242" 2)])`, "\x02\x07\x01\x01\x08\x02\x02ABB"),
		gives("A=(h1ah1bwa(h1c@cn1)rb)", `((9) "")`, "\x01\x00\x03\x09"), gives("A=*(h1a@an1'05)", "[(9)]", "\x02\x05\x09"),
		noValue("A=(h1a@an1)", "(-)"), noValue("A=(h1a@an1n1)", "(256 1)"), noValue("A=(h1a@a(h1b@bn1)n1)", "((256) 1)"), noValue("A=(h1a@an1)", "()"),
		// Parse lets rest and many take what is written behind them, if it was not read by then.
		other("A=(h1a@a.h1b@b.)", `("41" "42")`), gives("A=(h1a@a.h1b@b.)", `("41" "")`, "\x02\x03A"), other("A=(h1a@an1.)", `(65 "42")`), other("A=(*n1h1a@an1)", "([1] 2)"), gives("A=*(h1a@an1)", "[(1) (2)]", "\x02\x03\x01\x02"),
	})
}

func TestGenerateSummed(t *testing.T) {
	wantGenerates(t, []generated{
		gives("A=(h1asan1)", "(7)", "\x07\x07"), gives("A=(h1asan2)", "(258)", "\x21\x01\x02"), gives("A=(h1asa.)", `("")`, "\x00"), gives("A=(h1ah1bwasb*n1)", "([1 1])", "\x02\x20\x01\x01"),
		// Cut to the lowest bytes, as many as the hidden number has.
		gives("A=(h1asa.)", `("ffff")`, "\xe0\xff\xff"), gives("A=(h2asa.)", `("ffff")`, "\x1f\xe0\xff\xff"), gives("A=(k2asa.)", `("ffff")`, "\xe0\x1f\xff\xff"),
		gives("A=(h3asa.)", `("ffffffffff")`, "\x81\x31\x3f\xff\xff\xff\xff\xff"), gives("A=(k3asa.)", `("ffffffffff")`, "\x3f\x31\x81\xff\xff\xff\xff\xff"),
		gives("A=(h4asa.)", `("ffffffffffff")`, "\xc1\xa4\xf7\xa0\xff\xff\xff\xff\xff\xff"), gives("A=(k4asa.)", `("ffffffffffff")`, "\xa0\xf7\xa4\xc1\xff\xff\xff\xff\xff\xff"),
		// Of all its bytes, hidden numbers among them, and of none at other places.
		gives("A=(h1asa(h1brbn1))", `(("6162" 7))`, "\xc4\x02ab\x07"), gives("A=(h1asa(h1b@bn1)n1)", "((121) 120)", "\x03\x03xy"), gives("A=(h1ah1bsa@bn1)", "(120)", "\x00\x02x"),
		gives("A=(h1asa(h1b@b(n1)n1))", "(((3) 2))", "\x5f\x03\x02\x03"),
		// Those inside ahead of those around them.
		gives("A=(h1ah1bsasbn1)", "(7)", "\x07\x07\x07"), gives("A=(h1asa(h1bsbn1))", "((7))", "\xe0\x07\x07"), gives("A=(h1asa(h1bh1csbn1scn1))", "((1 2))", "\x02\x01\x02\x01\x02"),
		gives("A=(h1asa(h1bsb(h1cscn1)))", "(((2)))", "\x80\x40\x02\x02"),
		// Those of what waits ahead of those of the main bytes, and of what waited ahead of it.
		gives("A=(h1ah1b@asbn1)", "(120)", "\x02xx"), gives("A=(h1asa(h1bh1c@bscn1))", "((5))", "\x62\x03\x05\x05"), gives("A=(h1asa(h1b@b(h1csc(n1))))", "((((5))))", "\x02\x02\x05\x05"),
		gives("A=(h1ah1b@asb(h1ch1d@csdn1))", "((5))", "\x02\x81\x04\x05\x05"), gives("A=(h1asa(h1bh1c@bsc(h1dh1e@dsen1)))", "(((5)))", "\xfd\x03\xa0\x05\x05\x05"),
		noValue("A=(h1asan1)", "(-)"), noValue("A=(h1asan1)", "(256)"), noValue("A=(h1asan1)", "()"),
	})
}

// TestGenerateWidths: a hidden number is as great as its bytes can tell, or it
// is one too great.
func TestGenerateWidths(t *testing.T) {
	tooWide := func(grammar, tree string) generated { return generated{grammar, tree, "", api.ErrWidth} }
	wantGenerates(t, []generated{
		gives("A=(h1ara)", "("+runOf(255)+")", "\xff"+strings.Repeat("~", 255)), tooWide("A=(h1ara)", "("+runOf(256)+")"), tooWide("A=(k1ara)", "("+runOf(256)+")"),
		gives("A=(h1ata'41)", "("+listOf(255, "-")+")", "\xff"+strings.Repeat("A", 255)), tooWide("A=(h1ata'41)", "("+listOf(256, "-")+")"), tooWide("A=(h1ata.)", "("+listOf(256, `""`)+")"),
		gives("A=(h1awa.)", "("+runOf(255)+")", "\xff"+strings.Repeat("~", 255)), tooWide("A=(h1awa.)", "("+runOf(256)+")"), gives("A=(k2awa.)", "("+runOf(256)+")", "\x00\x01"+strings.Repeat("~", 256)),
		gives("A=(h1aB@an1);B=(h2ara)", "(("+runOf(252)+") 7)", "\xff\x00\xfc"+strings.Repeat("~", 252)+"\x07"), tooWide("A=(h1aB@an1);B=(h2ara)", "(("+runOf(253)+") 7)"),
		tooWide("A=(h1aB@a.);B=(h2ara)", "(("+runOf(253)+`) "")`), tooWide("A=(h1a@a(h1brb))", "(("+runOf(256)+"))"),
		// Each is asked, wherever it stands; sums are never too great.
		tooWide("A=(h1arah1brb)", "("+runOf(256)+` "")`), tooWide("A=(h1ah1brarb)", `("" `+runOf(256)+")"), gives("A=(h1asa.)", "("+runOf(300)+")", "\x80"+strings.Repeat("~", 300)),
	})
}

// TestGenerateSaysTheFirst: where several errors apply, the one named first.
func TestGenerateSaysTheFirst(t *testing.T) {
	long := runOf(256)
	for _, c := range []struct {
		grammar, tree string
		most          int
		e             api.Errno
		place         int
	}{
		{"A=n5", "x", -1, api.ErrForm, 3}, {"A=n1;B=C", "x", -1, api.ErrRule, 7}, {"A=(h1a)", "x", -1, api.ErrBound, 5}, {strings.Repeat("A", 401), "x", -1, api.ErrLong, 0},
		{"A=n1", "5x", -1, api.ErrTree, 1}, {"A=n1", "-", -1, api.ErrBudget, 0}, {"A=n1", "-", 4001, api.ErrBudget, 0}, {"A=n1", "5", 4001, api.ErrBudget, 0}, {"A=n1", "5", -1 << 63, api.ErrBudget, 0}, {"A=n1", "5", 1<<63 - 1, api.ErrBudget, 0},
		{"A=n1", "-", 0, api.ErrValue, 0}, {"A=(h1aran1)", "(" + long + " 256)", 0, api.ErrValue, 0}, {"A=(h1ara)", "(" + long + ")", 256, api.ErrFull, 0}, {"A=(h1ara)", "(" + long + ")", 257, api.ErrWidth, 0},
		{"A=(h1a@a(h1brb))", "((" + long + "))", 257, api.ErrFull, 0}, {"A=(h1a@a(h1brb))", "((" + long + "))", 258, api.ErrWidth, 0}, {"A=(h1ara/n1'05)", "(" + long + " /1 -)", 4000, api.ErrWidth, 0},
		{"A=/n1'05", "/1 -", 0, api.ErrFull, 0}, {"A=/n1'05", "/1 -", 1, api.ErrOther, 0}, {"A=n1", "5", 1, api.OK, 0}, {"A=n1", "5", 4000, api.OK, 0}, {"A=*n1", "[]", 0, api.OK, 0},
	} {
		bytes, e, place := Generate(c.grammar, c.tree, c.most)
		if e != c.e || place != c.place || e != api.OK && bytes != "" {
			t.Errorf("Generate(%.20q, %.20q, %d) = %.20q, %d, %d, want %d, %d", c.grammar, c.tree, c.most, bytes, e, place, c.e, c.place)
		}
	}
}

// TestGenerateBounds: trees and bytes as long as they may be.
func TestGenerateBounds(t *testing.T) {
	structs := listOf(2666, "()") // of 7999 bytes
	wantGenerate(t, gives("A=*('41)", structs, strings.Repeat("A", 2666)), 4000)
	wantGenerate(t, generated{"A=*('41'42)", structs, "", api.ErrFull}, 4000)
	wantGenerate(t, generated{"A=*(" + strings.Repeat("'41", 130) + ")", structs, "", api.ErrFull}, 4000)
	wantGenerate(t, gives("A=*'41", listOf(3999, "-"), strings.Repeat("A", 3999)), 4000)
	wantGenerate(t, gives("A=(*'41'42)", "("+listOf(3998, "-")+")", strings.Repeat("A", 3998)+"B"), 3999)
	wantGenerate(t, gives("A=(.*'00)", "("+runOf(3996)+" [])", strings.Repeat("~", 3996)), 4000)
	wantGenerate(t, gives("A=(n4.)", "(0 "+runOf(3996)+")", "\x00\x00\x00\x00"+strings.Repeat("~", 3996)), 4000)
	wantGenerate(t, generated{"A=('00n4.)", "(0 " + runOf(3996) + ")", "", api.ErrFull}, 4000)
	// A tree of 8000 bytes may be, one more may not.
	full := "(0 0 " + runOf(3996) + ")"
	for tree, want := range map[string]api.Errno{full: api.ErrFull, full[:4] + "0" + full[4:]: api.ErrTree, strings.Repeat("x", 8001): api.ErrTree} {
		if _, e, place := Generate("A=(n4n4.)", tree, 4000); e != want || place != 0 {
			t.Errorf("Generate of a tree of %d bytes: %d, %d, want %d", len(tree), e, place, want)
		}
	}
	// Where Parse runs out of fuel, it does not answer the tree.
	wantGenerate(t, other("A=(BB);B=/('61B'62)/('61B'63)'64", "("+strings.Repeat("/1 /0 (", 20)+"/1 /1 -"+strings.Repeat(")", 20)+" /1 /1 -)"), 4000)
}

// TestGenerateParsesWithAllBudgets: Parse has just as much fuel and as many
// values as there may be, to make sure of the tree.
func TestGenerateParsesWithAllBudgets(t *testing.T) {
	// Each of the 13 first parts is tried in vain, at the cost of 7692 fuel.
	vain := "A=" + strings.Repeat("/(*B'00)", 13) + "%;B=C;C=D;D=E;E=F;F=G;G=H;H=n1"
	bytes, tree := strings.Repeat("~", 960), strings.Repeat("/1 ", 13)+"%"
	just := gives(strings.Replace(vain, "%", "(((.)))", 1), strings.Replace(tree, "%", "((("+runOf(960)+")))", 1), bytes)
	wantParse(t, parsed{just.grammar, bytes, "", api.ErrFuel, 0}, api.MaxFuel-1, api.MaxNodes)
	wantGenerates(t, []generated{just, other(strings.Replace(vain, "%", "((((.))))", 1), strings.Replace(tree, "%", "(((("+runOf(960)+"))))", 1))})
	// The first part is tried in vain, at the cost of 10000 values and of one more.
	just = gives("A=/(n1n1n1*(((n1)))'00).", "/1 "+runOf(2502), strings.Repeat("~", 2502))
	wantParse(t, parsed{just.grammar, just.bytes, "", api.ErrNodes, 0}, api.MaxFuel, api.MaxNodes-1)
	wantGenerates(t, []generated{just, other("A=/(*(((n1)))'00).", "/1 "+runOf(2500))})
}

// TestGenerateDeep: trees that are as deep as a text can be.
func TestGenerateDeep(t *testing.T) {
	wantGenerate(t, gives("A=/('41A)'42", strings.Repeat("/0 (", 1500)+"/1 -"+strings.Repeat(")", 1500), strings.Repeat("A", 1500)+"B"), 4000)
	wantGenerate(t, gives("A=/'42('41A)", strings.Repeat("/1 (", 1599)+"/0 -"+strings.Repeat(")", 1599), strings.Repeat("A", 1599)+"B"), 4000)
	wantGenerate(t, noValue("A=(A)", strings.Repeat("(", 4000)+strings.Repeat(")", 4000)), 4000)
	wantGenerate(t, other("A=*A", strings.Repeat("[", 4000)+strings.Repeat("]", 4000)), 4000)
	// Many parts at each step down, none of which has bytes of its own.
	windows := "A=(h4ah4bh4ch4dh4eh4fh4gh4h@awbscwd@ewfsgwhB);B=C;C=D;D=E;E=F;F=G;G=H;H=/A."
	wantGenerate(t, generated{windows, strings.Repeat("(/0 ", 1598) + `(/1 "")` + strings.Repeat(")", 1598), "", api.ErrFull}, 4000)
	wantGenerate(t, gives(windows, `(/1 "")`, strings.Repeat("\x00\x00\x00\x20"+strings.Repeat("\x00", 12), 2)), 4000)
}
