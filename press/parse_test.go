package press

import (
	"strings"
	"testing"

	"press/api"
)

// parsed is a grammar, bytes, and what Parse is to answer.
type parsed struct {
	grammar, bytes string
	tree           string
	e              api.Errno
	place          int
}

// fit is bytes that fit a grammar.
func fit(grammar, bytes, tree string) parsed {
	return parsed{grammar, bytes, tree, api.OK, 0}
}

// unfit is bytes that do not fit a grammar.
func unfit(grammar, bytes string, place int) parsed {
	return parsed{grammar, bytes, "", api.ErrSyntax, place}
}

func wantParse(t *testing.T, c parsed, fuel, nodes int) {
	t.Helper()
	tree, e, place := Parse(c.grammar, c.bytes, fuel, nodes)
	if tree != c.tree || e != c.e || place != c.place {
		t.Errorf("Parse(%.80q, %.40q, %d, %d) = %.80q, %d, %d, want %.80q, %d, %d",
			c.grammar, c.bytes, fuel, nodes, tree, e, place, c.tree, c.e, c.place)
	}
}

func wantParses(t *testing.T, cases []parsed) {
	t.Helper()
	for _, c := range cases {
		wantParse(t, c, api.MaxFuel, api.MaxNodes)
	}
}

func TestParseExamples(t *testing.T) {
	wantParse(t, fit("A=(n1l2)", "\x05\x01\x02", "(5 513)"), 9, 9)
	wantParse(t, parsed{"A=(n1l2)", "\x05\x01\x02", "", api.ErrFuel, 0}, 2, 9)
	wantParse(t, parsed{"A=(n1l2)", "\x05\x01\x02", "", api.ErrNodes, 0}, 9, 2)
	wantParses(t, []parsed{
		fit("A=(h1ara'00)", "\x02\x61\x62\x00", `("6162")`),
		unfit("A=(h1ara'00)", "\x02\x61\x62\x01", 3),
		unfit("A=(h1ara'00)", "\x02\x61\x62\x00\x00", 4),
		unfit("A=(h1ara'00)", "\x09\x61", 1),
		fit("A=*/'01n1", "\x01\x02\x01", "[/0 - /1 2 /0 -]"),
		fit("A=(h1a@a(h1brb)n1)", "\x02\x07\x01\x41", `(("41") 7)`),
		unfit("A=(h1a@a(h1brb)n1)", "\x00\x07\x01\x41", 0),
		fit("A=(h1ah1bwasb*n1)", "\x02\x20\x01\x01", "([1 1])"),
	})
}

func TestParseNumbers(t *testing.T) {
	wantParses(t, []parsed{
		fit("A=n1", "\x00", "0"), fit("A=n1", "\xff", "255"), fit("A=n2", "\x01\x02", "258"),
		fit("A=n3", "\x01\x02\x03", "66051"), fit("A=n4", "\x01\x02\x03\x04", "16909060"),
		fit("A=n4", "\xff\xff\xff\xff", "4294967295"), fit("A=n4", "\x00\x00\x00\x07", "7"),
		fit("A=l1", "\xfe", "254"), fit("A=l2", "\x01\x02", "513"), fit("A=l3", "\x01\x02\x03", "197121"),
		fit("A=l4", "\x01\x02\x03\x04", "67305985"), fit("A=l4", "\xff\xff\xff\xff", "4294967295"), fit("A=l4", "\x07\x00\x00\x00", "7"),
		unfit("A=n1", "", 0), unfit("A=n4", "abc", 0), unfit("A=l2", "a", 0), unfit("A=(n1l3)", "abc", 1),
		unfit("A=n1", "ab", 1), unfit("A=l2", "abc", 2),
	})
}

func TestParseFixed(t *testing.T) {
	wantParses(t, []parsed{
		fit("A='41", "A", "-"), fit("A='00", "\x00", "-"), fit("A='ff", "\xff", "-"), fit("A='0a", "\x0a", "-"),
		unfit("A='41", "B", 0), unfit("A='41", "", 0), unfit("A='41", "AA", 1),
		// A struct's own fixed byte has no value there; elsewhere it has one.
		fit("A=('41)", "A", "()"), fit("A=('41n1'42)", "A\x07B", "(7)"), fit("A=(B'42);B='41", "AB", "(-)"),
		fit("A=(*'41)", "AA", "([- -])"), fit("A=(/'41'42)", "B", "(/1 -)"), fit("A=(h1ata'41)", "\x02AA", "([- -])"),
		fit("A=(h1awa'41)", "\x01A", "(-)"), fit("A=(h1a@a'41)", "\x01A", "(-)"), fit("A=(h1asa'01)", "\x01\x01", "(-)"),
	})
}

func TestParseStruct(t *testing.T) {
	wantParses(t, []parsed{
		fit("A=(n1)", "a", "(97)"), fit("A=(n1n1n1)", "abc", "(97 98 99)"), fit("A=((n1)((n1)))", "ab", "((97) ((98)))"),
		fit("A=((('00)))", "\x00", "((()))"), unfit("A=('41'42'43)", "AxC", 1), unfit("A=(n1n1)", "a", 1),
		unfit("A=((n1'42)n1)", "axc", 1), unfit("A=(n1n1)", "abc", 2),
	})
	// As soon as one fails no other is tried.
	wantParse(t, unfit("A=('41n1n1)", "Bxx", 0), 2, 0)
	wantParse(t, unfit("A=(n1('41A)A)", "aB", 1), 4, 1)
}

func TestParseChoice(t *testing.T) {
	wantParses(t, []parsed{
		fit("A=/n1n1", "a", "/0 97"), fit("A=/n2n1", "a", "/1 97"), fit("A=/n2/n3n1", "a", "/1 /1 97"),
		fit("A=/'41.", "", `/1 ""`), fit("A=(/'41'42n1)", "Ba", "(/1 - 97)"),
		unfit("A=/'41'42", "C", 0), unfit("A=/n1n2", "ab", 1), unfit("A=(/n1('41'42)'43)", "AB", 1),
		// What the first read counts as not read, wherever it stood.
		fit("A=/(n1'42)(n1n1)", "AC", "/1 (65 67)"), fit("A=/(h1a@an1'05)(n1n1n1)", "\x02\x07\x09", "/1 (2 7 9)"),
		fit("A=/(h1a@a.'05)(n1n1n1)", "\x02\x07\x09", "/1 (2 7 9)"), fit("A=/(h1ara'05)(n1.)", "\x02ab\x06", `/1 (2 "616206")`),
		// But nothing else does.
		unfit("A=(h1a@an1/('41'42)n2)", "\x02\x41\x43", 2),
		// The greatest place is told, whichever of them failed there.
		unfit("A=/('41'42'43)('41'44)", "ABx", 2), unfit("A=/('41'44)('41'42'43)", "ABx", 2), unfit("A=/('41'42'43)'44", "ABx", 2),
	})
}

func TestParseMany(t *testing.T) {
	wantParses(t, []parsed{
		fit("A=*n1", "", "[]"), fit("A=*n1", "abc", "[97 98 99]"), fit("A=*n2", "\x00\x01\x00\x02", "[1 2]"),
		unfit("A=*n2", "\x00\x01\x00", 2), fit("A=(*'41n1)", "AAB", "([- -] 66)"), unfit("A=(*n1n1)", "ab", 2),
		// One that fits but does not go on ends it, and is no part of it.
		fit("A=*.", "", "[]"), fit("A=*.", "ab", `["6162"]`), fit("A=**n1", "", "[]"), fit("A=**n1", "ab", "[[97 98]]"),
		fit("A=(*.*.)", "ab", `(["6162"] [])`), fit("A=*/n2*'41", "abA", "[/0 24930 /1 [-]]"),
		// What the last try read counts as not read, wherever it stood.
		fit("A=(*('41'42)n1n1)", "ABAC", "([()] 65 67)"), fit("A=(*(h1a@an1'05)n1n1n1)", "\x02\x07\x09", "([] 2 7 9)"),
		fit("A=(*(h1a@an1'05)n1)", "\x03\x05\x08\x09", "([(9)] 8)"), fit("A=*(h1a@an1'05)", "\x02\x05\x09", "[(9)]"),
		unfit("A=(*('41'42'43)'41'44)", "ABCABx", 5),
	})
}

func TestParseRule(t *testing.T) {
	wantParses(t, []parsed{
		fit("A=B;B=n1", "a", "97"), fit("A=(BB);B=(n1)", "ab", "((97) (98))"), fit("A=C;B=n2;C=n1", "a", "97"),
		fit("A=H;H=C;C=*n1", "a", "[97]"), fit("A=/(n1A)n1", "abc", "/0 (97 /0 (98 /1 99))"), fit("A=n1;B=A", "a", "97"),
		fit("A=/('28A'29)n1", "((a))", "/0 (/0 (/1 97))"), unfit("A=B;B=(C'42);C='41", "AC", 1),
		// Each struct has hidden numbers of its own, each time that it is tried.
		fit("A=(h1aBra);B=(h1ara)", "\x01\x02xyz", `(("7879") "7a")`), fit("A=*(h1ara)", "\x01a\x00\x02bc", `[("61") ("") ("6263")]`),
	})
}

func TestParseHiddenAndRun(t *testing.T) {
	wantParses(t, []parsed{
		fit("A=(h1ara)", "\x00", `("")`), fit("A=(h1ara)", "\x01\x00", `("00")`), fit("A=(h1ara)", "\x03\x0f\xf0\xab", `("0ff0ab")`),
		fit("A=(h2ara)", "\x00\x01a", `("61")`), fit("A=(h3ara)", "\x00\x00\x01a", `("61")`), fit("A=(h4ara)", "\x00\x00\x00\x01a", `("61")`),
		fit("A=(k1ara)", "\x01a", `("61")`), fit("A=(k2ara)", "\x01\x00a", `("61")`), fit("A=(k3ara)", "\x01\x00\x00a", `("61")`),
		fit("A=(k4ara)", "\x01\x00\x00\x00a", `("61")`), fit("A=(h2ara)", "\x01\x00"+strings.Repeat("\x7e", 256), `("`+strings.Repeat("7e", 256)+`")`),
		fit("A=(h1ah1bn1rbra)", "\x01\x02\x09abc", `(9 "6162" "63")`), fit("A=(h1ah1brarb)", "\x01\x02abc", `("61" "6263")`),
		unfit("A=(h1ara)", "", 0), unfit("A=(h2ara)", "\x00", 0), unfit("A=(n1k4ara)", "abcd", 1), unfit("A=(h1ara)", "\x01", 1),
		unfit("A=(h1ara)", "\x03ab", 1), unfit("A=(h1ara)", "\x01ab", 2), unfit("A=(h4ara)", "\xff\xff\xff\xffab", 4),
		unfit("A=(k4ara)", "\x00\x00\x00\x80ab", 4), unfit("A=(h1ah1bwarb)", "\x01\x02ab", 2),
	})
}

func TestParseTimes(t *testing.T) {
	wantParses(t, []parsed{
		fit("A=(h1atan1)", "\x00", "([])"), fit("A=(h1atan1)", "\x03abc", "([97 98 99])"), fit("A=(h1ata(h1ara))", "\x02\x01a\x00", `([("61") ("")])`),
		fit("A=(h1atan1n1)", "\x01ab", "([97] 98)"), fit("A=(h1ata.)", "\x02", `(["" ""])`), fit("A=(h1ata.)", "\x03ab", `(["6162" "" ""])`),
		fit("A=(h1ata*n1)", "\x02ab", "([[97 98] []])"), fit("A=(h1ah1btan1tbn2)", "\x01\x01abc", "([97] [25187])"),
		unfit("A=(h1atan1)", "\x03ab", 3), unfit("A=(h1atan1)", "\x01ab", 2), unfit("A=(h4ata'41)", "\xff\xff\xff\xffAAB", 6),
	})
}

func TestParseWindow(t *testing.T) {
	wantParses(t, []parsed{
		fit("A=(h1awan1)", "\x01a", "(97)"), fit("A=(h1awa*n1)", "\x00", "([])"), fit("A=(h1awa*n1n1)", "\x02abc", "([97 98] 99)"),
		fit("A=(h1awa.)", "\x02ab", `("6162")`), fit("A=(h1awa.n1)", "\x00a", `("" 97)`),
		// More than there is, at its place; of another length, where it is.
		unfit("A=(h1awa.)", "\x03ab", 1), unfit("A=(h4awa.)", "\xff\xff\xff\xff", 4), unfit("A=(h1awan1)", "\x02ab", 2), unfit("A=(h1awan2)", "\x01ab", 1),
		unfit("A=(n1h1awa(n1n1))", "x\x03abc", 4), unfit("A=(h1awa*n2)", "\x03abc", 3),
		unfit("A=(h1awan1n1)", "\x02ab", 2), fit("A=/(h1awan1n1)(n1n1n1)", "\x02ab", "/1 (2 97 98)"), unfit("A=(h1awa*'41n1)", "\x02AB", 2),
		// A window in a window.
		fit("A=(h1ah1bwawb.)", "\x02\x02ab", `("6162")`), unfit("A=(h1ah1bwawb.)", "\x02\x01ab", 3), unfit("A=(h1ah1bwawb.)", "\x01\x02ab", 2),
		fit("A=(h1awa(h1bwb.n1)n1)", "\x04\x02abcd", `(("6162" 99) 100)`), unfit("A=(h1awa(h1bwb.)n1)", "\x02\x02abc", 2),
		// The window ends behind its part.
		fit("A=(h1awan1.)", "\x01abc", `(97 "6263")`), unfit("A=(h1ah1bwan1rb)", "\x01\x03ab", 3),
	})
}

func TestParseAt(t *testing.T) {
	wantParses(t, []parsed{
		fit("A=(h1a@an1n1)", "\x02\x07\x08", "(8 7)"), fit("A=(h1a@an1)", "\x01\x08", "(8)"), fit("A=(h1ah1b@an1@bn1)", "\x03\x02xy", "(121 120)"),
		fit("A=(n1h1a@a'41)", "x\x02A", "(120 -)"), fit("A=(h1a@a*n1n1)", "\x02abc", "([98 99] 97)"),
		// At the bytes' end there is a place, behind it none.
		fit("A=(h1a@a.)", "\x01", `("")`), unfit("A=(h1a@a.)", "\x02", 1), unfit("A=(h1a@an1)", "\x01", 1), unfit("A=(h4a@a.)", "\xff\xff\xff\xff", 4),
		// Its window is up to the bytes' end, and the one around it is again what it was.
		fit("A=(h1awa(h1b@bn1)n1)", "\x01\x03xy", "((121) 120)"), unfit("A=(h1awa(h1b@bn1n1))", "\x01\x03xy", 2),
		fit("A=(h1ah1b@awbn1n1)", "\x03\x01xy", "(121 120)"), unfit("A=(h1ah1b@awb.n1)", "\x03\x02xy", 3),
		fit("A=(h1ah1bwa@bn1n1)", "\x00\x03xy", "(121 120)"), unfit("A=(h1ah1bwa@bn1.)", "\x01\x03xy", 2),
		// The part that fails tells its own place, wherever that is.
		unfit("A=(h1a@a'05n1)", "\x03abc", 3), unfit("A=(n1n1h1a@an1)", "ab\x00", 0),
	})
}

func TestParseReadsNoByteTwice(t *testing.T) {
	wantParses(t, []parsed{
		unfit("A=(h1a@an1)", "\x00", 0), unfit("A=(h1a@al1)", "\x00", 0), unfit("A=(n1n1h1a@a'61)", "ab\x01", 1), unfit("A=(h1a@an1n1)", "\x01a", 1),
		unfit("A=(h1a@an2n2)", "\x02abc", 1), unfit("A=(h1a@an2l2)", "\x02abc", 1), unfit("A=(h1a@an1.)", "\x02abc", 1),
		unfit("A=(h1ah1b@an1@b.)", "\x02\x02a", 2), unfit("A=(h1a@an1h1brb)", "\x03\x02ab", 2), unfit("A=(h1a@an1h2brb)", "\x02\x02ab", 1),
		unfit("A=(h1a@an1k2brb)", "\x02\x02ab", 1), unfit("A=(h1a@an1'61)", "\x01a", 1), unfit("A=(h1a@aA)", "\x00", 0),
		// Where no byte is read, none is read twice.
		fit("A=(h1an1@a.)", "\x02a", `(97 "")`), fit("A=(h1ah1bn1@b(h1crc)@a.)", "\x05\x03a\x01b", `(97 ("62") "")`),
		fit("A=(h1ah1b@arbn1)", "\x00\x00a", `("" 97)`), fit("A=(h1a@an1h1brb)", "\x02\x00a", `(97 "")`), fit("A=(h1a@a*n1)", "\x00", "([])"),
	})
}

// TestParseWantsAllBytes: the first place that was not read is told, and not
// the greatest at which a part failed.
func TestParseWantsAllBytes(t *testing.T) {
	wantParses(t, []parsed{
		unfit("A=n1", "ab", 1), unfit("A=(h1a@an1)", "\x02xy", 1), unfit("A=(h1a@an1n1)", "\x03xyz", 2), unfit("A=(h1a@a.)", "\x03xyz", 1),
		unfit("A=(h1a@an1)", "\x01xyz", 2), unfit("A=/('41'42'43)'41", "ABD", 1), unfit("A=*('41'42'43)", "ABCABD", 3), unfit("A=*'41", "B", 0),
	})
}

func TestParseSummed(t *testing.T) {
	wantParses(t, []parsed{
		fit("A=(h1asan1)", "\x07\x07", "(7)"), unfit("A=(h1asan1)", "\x08\x07", 1), fit("A=(h1asan2)", "\x21\x01\x02", "(258)"), unfit("A=(h1asan2)", "\x21\x02\x01", 1),
		fit("A=(h1asa.)", "\x00", `("")`), unfit("A=(h1asa.)", "\x01", 1), unfit("A=(n1n1h1asa(n1n1n1))", "ab\x00cde", 3), unfit("A=(h1asa('41'42))", "\x00AC", 2),
		// Cut to the lowest bytes, as many as the hidden number has.
		fit("A=(h1asa.)", "\xe0\xff\xff", `("ffff")`), fit("A=(h2asa.)", "\x1f\xe0\xff\xff", `("ffff")`), fit("A=(k2asa.)", "\xe0\x1f\xff\xff", `("ffff")`),
		fit("A=(h2asa.)", "\xdd\x1f\xff\xff\xff", `("ffffff")`), fit("A=(h3asa.)", "\x03\xdd\x1f\xff\xff\xff", `("ffffff")`),
		fit("A=(h3asa.)", "\x81\x31\x3f\xff\xff\xff\xff\xff", `("ffffffffff")`), fit("A=(h4asa.)", "\x0e\x81\x31\x3f\xff\xff\xff\xff\xff", `("ffffffffff")`),
		fit("A=(h4asa.)", "\xc1\xa4\xf7\xa0\xff\xff\xff\xff\xff\xff", `("ffffffffffff")`), fit("A=(k4asa.)", "\xa0\xf7\xa4\xc1\xff\xff\xff\xff\xff\xff", `("ffffffffffff")`),
		// The bytes from the place ahead to the one behind, hidden ones too, and none of those at other places.
		fit("A=(h1asa(h1brbn1))", "\xc4\x02ab\x07", `(("6162" 7))`), fit("A=(h1asa(h1b@bn1)n1)", "\x03\x03xy", "((121) 120)"),
		fit("A=(h1ah1bsa@bn1)", "\x00\x02x", "(120)"), unfit("A=(h1ah1bsa@bn1)", "\x78\x02x", 2), fit("A=(h1ah1b@asbn1)", "\x02xx", "(120)"), unfit("A=(h1ah1b@asbn1n1)", "\x03\x00xy", 3),
		// A sum around a sum.
		fit("A=(h1ah1bsasbn1)", "\x07\x07\x07", "(7)"), fit("A=(h1asa(h1bsbn1))", "\xe0\x07\x07", "((7))"), unfit("A=(h1asa(h1bsbn1))", "\xe0\x06\x07", 2),
	})
}
