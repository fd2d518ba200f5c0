package tests

import (
	"slices"
	"strings"
	"testing"
	"time"

	"loop.example/g00364/impl"
)

const (
	ruleLine = "Rule E 1980 1990 - Mar lastSun 1:00u 1:00 S"
	zoneLine = "Zone P 1:00 - LMT 1990 Mar 5 2:00s"
	eraLine  = "0 - X"
)

// aRule is what ruleLine tells, anEra what zoneLine tells.
var (
	aRule = impl.Rule{Name: "E", From: 1980, To: 1990, Month: 3, On: "lastSun", At: 3600, Of: "u", Save: 3600, Letter: "S"}
	anEra = impl.Era{Offset: 3600, Format: "LMT", Until: wallTime(1990, 3, 5, 2*3600), Of: "s"}
	aLast = impl.Era{Format: "X", Until: impl.MaxTime, Of: "w"}
)

func wallTime(year int, month int, day int, secs int64) int64 {
	return time.Date(year, time.Month(month), day, 0, 0, 0, 0, time.UTC).Unix() + secs
}

// with is a line in which one word is another.
func with(line string, place int, word string) string {
	words := strings.Split(line, " ")
	words[place] = word
	return strings.Join(words, " ")
}

func sameZone(a impl.Zone, b impl.Zone) bool {
	return a.Name == b.Name && slices.Equal(a.Eras, b.Eras)
}

// sameRelease takes an empty list, and none, as the same.
func sameRelease(a impl.Release, b impl.Release) bool {
	return slices.Equal(a.Rules, b.Rules) && slices.EqualFunc(a.Zones, b.Zones, sameZone) && slices.Equal(a.Links, b.Links)
}

func isRelease(t *testing.T, text string, want impl.Release) {
	t.Helper()
	got := impl.ReleaseRead(text)
	if got.Code != impl.OK || got.Line != 0 || !sameRelease(got.Release, want) {
		t.Errorf("%.200q: got %+v, want %+v", text, got, want)
	}
}

// isRefused asks for the line and the code, and for nothing beside these.
func isRefused(t *testing.T, text string, line int64, code int64) {
	t.Helper()
	got := impl.ReleaseRead(text)
	if got.Code != code || got.Line != line || !sameRelease(got.Release, impl.Release{}) {
		t.Errorf("%.200q of %d bytes: got %+v, want the line %d and the code %d", text, len(text), got, line, code)
	}
}

func isSyntax(t *testing.T, text string, line int64) {
	t.Helper()
	isRefused(t, text, line, impl.ErrSyntax)
}

func isRuleLine(t *testing.T, line string, want impl.Rule) {
	t.Helper()
	isRelease(t, line+"\n", impl.Release{Rules: []impl.Rule{want}})
}

// isZoneLine takes a Zone's line with a YEAR: the Rule is there, so that an Era may name it.
func isZoneLine(t *testing.T, line string, want impl.Era) {
	t.Helper()
	zone := impl.Zone{Name: "P", Eras: []impl.Era{want, aLast}}
	isRelease(t, ruleLine+"\n"+line+"\n"+eraLine+"\n", impl.Release{Rules: []impl.Rule{aRule}, Zones: []impl.Zone{zone}})
}

// isNoZoneLine asks for the same of such words as a Zone's first Era, and as another one.
func isNoZoneLine(t *testing.T, line string) {
	t.Helper()
	isSyntax(t, line+"\n"+eraLine+"\n", 0)
	if era, found := strings.CutPrefix(line, "Zone P "); found {
		isSyntax(t, "Zone Q 0 - X 1950\n"+era+"\n"+eraLine+"\n", 1)
	}
}

// aRuleBut is aRule with something else.
func aRuleBut(change func(*impl.Rule)) impl.Rule {
	rule := aRule
	change(&rule)
	return rule
}

func anEraBut(change func(*impl.Era)) impl.Era {
	era := anEra
	change(&era)
	return era
}

func TestARuleLine(t *testing.T) {
	isRuleLine(t, ruleLine, aRule)
	words := strings.Split(ruleLine, " ")
	for many := 1; many < len(words); many++ {
		isSyntax(t, strings.Join(words[:many], " ")+"\n", 0)
		isSyntax(t, strings.Join(slices.Delete(slices.Clone(words), many, many+1), " ")+"\n", 0)
	}
	isSyntax(t, ruleLine+" -\n", 0)
	isSyntax(t, ruleLine+" S\n", 0)
}

func TestWordsThatARuleMayNotHave(t *testing.T) {
	none := map[int][]string{
		0: {"rule", "RULE", "Rules", "Rul", "R", "-", "Rule:"},
		1: {"-", "1a", "_a", "/a", "E.", "E%", "E,", "é", strings.Repeat("a", 21)},
		2: {"0", "00", "10000", "19800", "-1", "+1980", "x", "198x", "1980x", "19.8", "only", "max", "min", "-", "1991"},
		3: {"1979", "1", "0", "10000", "19800", "-1", "Only", "ONLY", "onl", "onlyx", "o", "MAX", "Max", "maximum", "ma", "m", "-", "1980x"},
		4: {"+", "--", "x", "0", "-x"},
		5: {"mar", "MAR", "March", "Ma", "3", "03", "M", "-", "JanFeb", "anF", "nFe", "DecJ", "0"},
		6: {"0", "00", "32", "40", "99", "001", "031", "last", "lastsun", "lastSunday", "lastSu", "Sunday", "Sun", "Sun>1", "Sun=1", "Sun>=", "Sun>=0", "Sun>=32", "Sun<=0", "Sun<=32", "sun>=1", ">=1", "Sun>=1x", "-", "-1", "1x"},
		7: {"-", "-1", "-0", "-0:00", "-1:00u", "-u", "w", "s", "u", "168:01", "168:00:01", "169", "169u", "999", "2x", "2W", "2S", "2U", "2z", "2g", "2ww", "2ss", "2uu", "2su", "2us", "2uw", "2wu", "2sw", "2ws", "u2", "2:0", "2:0u", "1:60", "1:00:60", "0002", "2:00-", "+2"},
		8: {"2:00:01", "-2:00:01", "2:01", "-2:01", "3", "-3", "24", "168", "1:00s", "1:00d", "x", "2:1", "--", "+1", "1:60", "0000"},
		9: {"ABCDEFG", "abcdefg", "1", "S1", "S.", "é", "%", "%s", "_", "S_", "/", "S/", "-------", "=", "S,", "@", "[", "`", "{"},
	}
	for place, words := range none {
		for _, word := range words {
			isSyntax(t, with(ruleLine, place, word)+"\n", 0)
		}
	}
}

func TestWhoseRuleItIsAndItsYears(t *testing.T) {
	for _, name := range []string{"E", "z", "Z9", "a_/+-", "Rule", "Zone", "Link", "only", strings.Repeat("a", 20)} {
		isRuleLine(t, with(ruleLine, 1, name), aRuleBut(func(r *impl.Rule) { r.Name = name }))
	}
	years := map[string][2]int64{
		"1 1": {1, 1}, "1 only": {1, 1}, "1 2": {1, 2}, "1 9999": {1, 9999}, "1 max": {1, 9999}, "9999 only": {9999, 9999}, "9999 max": {9999, 9999}, "9999 9999": {9999, 9999},
		"1980 1980": {1980, 1980}, "1980 1981": {1980, 1981}, "1980 only": {1980, 1980}, "1980 max": {1980, 9999}, "87 987": {87, 987},
	}
	for words, want := range years {
		line := strings.Replace(ruleLine, "1980 1990", words, 1)
		isRuleLine(t, line, aRuleBut(func(r *impl.Rule) { r.From, r.To = want[0], want[1] }))
	}
	isSyntax(t, strings.Replace(ruleLine, "1980 1990", "9999 9998", 1)+"\n", 0)
	isSyntax(t, strings.Replace(ruleLine, "1980 1990", "2 1", 1)+"\n", 0)
}

func TestWhenInAYearARuleIs(t *testing.T) {
	for month := time.January; month <= time.December; month++ {
		isRuleLine(t, with(ruleLine, 5, month.String()[:3]), aRuleBut(func(r *impl.Rule) { r.Month = int64(month) }))
	}
	for _, on := range []string{"1", "9", "01", "09", "29", "30", "31", "lastSun", "lastMon", "lastTue", "lastWed", "lastThu", "lastFri", "lastSat", "Sun>=1", "Mon>=01", "Sat>=31", "Sun<=1", "Fri<=31", "Wed<=9"} {
		isRuleLine(t, with(ruleLine, 6, on), aRuleBut(func(r *impl.Rule) { r.On = on }))
		// The month of 31 days is any: the day needs not be in the month that the line tells.
		isRuleLine(t, with(with(ruleLine, 6, on), 5, "Feb"), aRuleBut(func(r *impl.Rule) { r.On, r.Month = on, 2 }))
	}
	times := map[string]int64{"0": 0, "0:00": 0, "2": 7200, "02": 7200, "002:00": 7200, "2:30": 9000, "1:00:05": 3605, "24": 86400, "24:00": 86400, "25:00": 90000, "168": 604800, "168:00": 604800, "168:00:00": 604800, "167:59:59": 604799}
	for word, at := range times {
		for _, of := range []string{"w", "s", "u"} {
			isRuleLine(t, with(ruleLine, 7, word+of), aRuleBut(func(r *impl.Rule) { r.At, r.Of = at, of }))
		}
		isRuleLine(t, with(ruleLine, 7, word), aRuleBut(func(r *impl.Rule) { r.At, r.Of = at, "w" }))
	}
}

func TestWhatARuleSavesAndItsLetter(t *testing.T) {
	saves := map[string]int64{"0": 0, "-": 0, "-0": 0, "0:00": 0, "1": 3600, "1:00": 3600, "-1:00": -3600, "0:30": 1800, "0:00:01": 1, "1:59:59": 7199, "2": 7200, "2:00": 7200, "02:00:00": 7200, "-2": -7200, "-2:00": -7200, "-1:59:59": -7199}
	for word, save := range saves {
		isRuleLine(t, with(ruleLine, 8, word), aRuleBut(func(r *impl.Rule) { r.Save = save }))
	}
	isRuleLine(t, with(ruleLine, 9, "-"), aRuleBut(func(r *impl.Rule) { r.Letter = "" }))
	for _, letter := range []string{"S", "a", "z", "A", "Z", "+", "--", "+-", "S-", "-S", "ABCDEF", "azAZ+-", "------", "only", "max"} {
		isRuleLine(t, with(ruleLine, 9, letter), aRuleBut(func(r *impl.Rule) { r.Letter = letter }))
	}
}

func TestAZoneLine(t *testing.T) {
	isZoneLine(t, zoneLine, anEra)
	words := strings.Split(zoneLine, " ")
	untils := []impl.Era{
		{Offset: 3600, Format: "LMT", Until: wallTime(1990, 1, 1, 0), Of: "w"},
		{Offset: 3600, Format: "LMT", Until: wallTime(1990, 3, 1, 0), Of: "w"},
		{Offset: 3600, Format: "LMT", Until: wallTime(1990, 3, 5, 0), Of: "w"},
		anEra,
	}
	for i, want := range untils {
		isZoneLine(t, strings.Join(words[:6+i], " "), want)
	}
	for many := 1; many < 5; many++ {
		isSyntax(t, strings.Join(words[:many], " ")+"\n", 0)
	}
	isNoZoneLine(t, zoneLine+" -")
	isNoZoneLine(t, zoneLine+" 2:00")
	zone := impl.Zone{Name: "P", Eras: []impl.Era{{Offset: 3600, Format: "LMT", Until: impl.MaxTime, Of: "w"}}}
	isRelease(t, "Zone P 1:00 - LMT\n", impl.Release{Zones: []impl.Zone{zone}})
}

func TestErasBehindEachOther(t *testing.T) {
	text := "Zone P 1:00 - A 1990\n-2 1:00 B 1991 Mar\n0:00:01 -0:30 C 1992 Apr lastSun\n-0:00:01 E D 1993 Dec Sun>=31 25:00u\n24 E X\n"
	eras := []impl.Era{
		{Offset: 3600, Format: "A", Until: wallTime(1990, 1, 1, 0), Of: "w"},
		{Offset: -7200, Save: 3600, Format: "B", Until: wallTime(1991, 3, 1, 0), Of: "w"},
		{Offset: 1, Save: -1800, Format: "C", Until: wallTime(1992, 4, 26, 0), Of: "w"},
		{Offset: -1, Rules: "E", Format: "D", Until: wallTime(1994, 1, 2, 25*3600), Of: "u"},
		{Offset: 86400, Rules: "E", Format: "X", Until: impl.MaxTime, Of: "w"},
	}
	want := impl.Release{Rules: []impl.Rule{aRule}, Zones: []impl.Zone{{Name: "P", Eras: eras}}}
	isRelease(t, ruleLine+"\n"+text, want)
	isRelease(t, text+ruleLine+"\n", want)
}

func TestWordsThatAnEraMayNotHave(t *testing.T) {
	none := map[int][]string{
		0: {"zone", "ZONE", "Zones", "Zon", "-"},
		1: {"-", "1a", "_a", "P.", "é", "1:00", strings.Repeat("a", 21)},
		2: {"24:00:01", "-24:00:01", "24:01", "-24:01", "25", "-25", "168", "x", "E", "1s", "1:00u", "+1", "--", "1:5", "1:60", "0001"},
		3: {"2:00:01", "-2:00:01", "2:01", "-2:01", "3", "-3", "24", "1a", "-E", "+1", "E.", "E,", "--", "1:5", "1:00s", "_E", "é", strings.Repeat("E", 21)},
		4: {"ABCDEFGHIJKLM", "A/B/C", "//", "A_B", "A.B", "A:B", "A\"B", "é", "A,", "(A)", "A=", "@", "[", "`", "{", strings.Repeat("A", 100)},
		5: {"0", "00", "10000", "19900", "-1990", "+1990", "x", "199x", "max", "only", "-", "1990:"},
		6: {"mar", "MAR", "March", "3", "-", "anF", "M"},
		7: {"0", "00", "32", "001", "last", "lastsun", "Sun", "Sun>=0", "Sun>=32", "Sun<=32", "-", "x", "lastMarch"},
		8: {"-", "-1", "-0", "-1:00u", "w", "u", "168:01", "169", "2x", "2W", "2ww", "2uw", "2:0", "1:60", "+2"},
	}
	for place, words := range none {
		for _, word := range words {
			isNoZoneLine(t, with(zoneLine, place, word))
		}
	}
}

func TestOffsetsRulesAndFormats(t *testing.T) {
	for _, name := range []string{"P", "Zone", "Rule", "Link", "a_/+-0", strings.Repeat("a", 20)} {
		zone := impl.Zone{Name: name, Eras: []impl.Era{anEra, aLast}}
		isRelease(t, with(zoneLine, 1, name)+"\n"+eraLine+"\n", impl.Release{Zones: []impl.Zone{zone}})
	}
	offsets := map[string]int64{"0": 0, "-": 0, "-0": 0, "0:00": 0, "1": 3600, "-1": -3600, "5:30": 19800, "-0:01:15": -75, "0:00:01": 1, "23:59:59": 86399, "24": 86400, "24:00": 86400, "024:00:00": 86400, "-24": -86400, "-24:00": -86400, "-23:59:59": -86399}
	for word, offset := range offsets {
		isZoneLine(t, with(zoneLine, 2, word), anEraBut(func(e *impl.Era) { e.Offset = offset }))
	}
	saves := map[string]int64{"-": 0, "0": 0, "-0": 0, "0:00": 0, "1": 3600, "1:00": 3600, "-1:00": -3600, "0:00:01": 1, "2": 7200, "2:00:00": 7200, "-2:00": -7200, "1:59:59": 7199, "-1:59:59": -7199}
	for word, save := range saves {
		isZoneLine(t, with(zoneLine, 3, word), anEraBut(func(e *impl.Era) { e.Save = save }))
	}
	isZoneLine(t, with(zoneLine, 3, "E"), anEraBut(func(e *impl.Era) { e.Rules = "E" }))
	for _, format := range []string{"A", "a", "z", "Z", "0", "9", "+", "-", "%", "/", "%s", "CE%sT", "GMT/BST", "/A", "A/", "%%", "+00/+01", "ABCDEFGHIJKL", "ABCDEF/GHIJK", "%s/%s"} {
		isZoneLine(t, with(zoneLine, 4, format), anEraBut(func(e *impl.Era) { e.Format = format }))
	}
}

func TestWhenAnEraEnds(t *testing.T) {
	untils := map[string]int64{
		"1 Jan 1 0": impl.MinTime, "1 Jan Mon>=1 0": impl.MinTime, "1 Jan 1 0:00:01": impl.MinTime + 1, "1 Feb 1 0": wallTime(1, 2, 1, 0),
		"9999 Dec 31 23:59:58": impl.MaxTime - 1, "9999 Jan 1 0": wallTime(9999, 1, 1, 0),
		"1992 Feb 29 0": wallTime(1992, 2, 29, 0), "2000 Feb 29 168": wallTime(2000, 3, 7, 0), "1990 Apr 30 24:00": wallTime(1990, 5, 1, 0), "1990 Mar 05 2": wallTime(1990, 3, 5, 7200),
		"1990 Mar lastSun 1:00": wallTime(1990, 3, 25, 3600), "1990 Feb lastWed 0": wallTime(1990, 2, 28, 0),
		"1990 Mar Sun>=31 0": wallTime(1990, 4, 1, 0), "1990 Dec Sat<=31 0": wallTime(1990, 12, 29, 0), "1990 Jan Sun<=1 0": wallTime(1989, 12, 31, 0), "1990 Dec Tue>=31 0": wallTime(1991, 1, 1, 0),
		"1969 Dec 31 23:59:59": -1, "1970 Jan 1 0": 0,
	}
	for words, until := range untils {
		for _, of := range []string{"w", "s", "u"} {
			isZoneLine(t, "Zone P 1:00 - LMT "+words+of, anEraBut(func(e *impl.Era) { e.Until, e.Of = until, of }))
		}
		isZoneLine(t, "Zone P 1:00 - LMT "+words, anEraBut(func(e *impl.Era) { e.Until, e.Of = until, "w" }))
	}
}

func TestDaysThatAreNotInTheirMonth(t *testing.T) {
	for _, words := range []string{"1990 Feb 29", "1900 Feb 29", "1992 Feb 30", "1990 Feb 31", "1990 Apr 31", "1990 Sep Sun>=31", "1990 Feb Sun<=29", "1990 Nov 31 0:00u"} {
		isNoZoneLine(t, "Zone P 1:00 - LMT "+words)
	}
}

// An Era's end is a wall time: a line that tells none is none.
func TestErasThatEndOutsideAllYears(t *testing.T) {
	for _, words := range []string{"1 Jan Sun<=1", "1 Jan Tue<=1 0", "1 Jan Sun<=1 23:59:59", "9999 Dec 31 24:00", "9999 Dec 31 168:00", "9999 Dec Sun>=31", "9999 Dec 25 168:00"} {
		isNoZoneLine(t, "Zone P 1:00 - LMT "+words)
	}
	isZoneLine(t, "Zone P 1:00 - LMT 1 Jan Sun<=1 24:00", anEraBut(func(e *impl.Era) { e.Until, e.Of = impl.MinTime, "w" }))
}

func TestALinkLine(t *testing.T) {
	zone := impl.Zone{Name: "P", Eras: []impl.Era{aLast}}
	for _, name := range []string{"Q", "Zone", "Rule", "Link", "a_/+-0", strings.Repeat("a", 20)} {
		want := impl.Release{Zones: []impl.Zone{zone}, Links: []impl.Link{{To: "P", Name: name}}}
		isRelease(t, "Zone P 0 - X\nLink P "+name+"\n", want)
		isRelease(t, "Link P "+name+"\nZone P 0 - X\n", want)
	}
	for _, line := range []string{"Link", "Link P", "Link P Q R", "link P Q", "LINK P Q", "Links P Q", "Link P 1", "Link P -", "Link P 1a", "Link P Q.", "Link P é", "Link - Q", "Link 1 Q", "Link P. Q", "Link P " + strings.Repeat("a", 21), "Link " + strings.Repeat("a", 21) + " P"} {
		isSyntax(t, "Zone P 0 - X\n"+line+"\n", 1)
	}
}

// Each byte in turn stands in a word of a line: those that part words, or end them, are left out.
func TestEachByteOfLettersAndFormats(t *testing.T) {
	const letters = "abcdefghijklmnopqrstuvwxyzABCDEFGHIJKLMNOPQRSTUVWXYZ"
	for b := range 256 {
		one := string([]byte{byte(b)})
		if strings.Contains(" \t\n#", one) {
			continue
		}
		letter := with(ruleLine, 9, "S"+one)
		if strings.Contains(letters+"+-", one) {
			isRuleLine(t, letter, aRuleBut(func(r *impl.Rule) { r.Letter = "S" + one }))
		} else {
			isSyntax(t, letter+"\n", 0)
		}
		format := with(zoneLine, 4, "A"+one)
		if strings.Contains(letters+"0123456789+-%/", one) {
			isZoneLine(t, format, anEraBut(func(e *impl.Era) { e.Format = "A" + one }))
		} else {
			isNoZoneLine(t, format)
		}
	}
}
