package tests

import (
	"fmt"
	"slices"
	"strings"
	"testing"

	"loop.example/g00364/impl"
)

// aRelease has one thing of each kind; each call makes a new one.
func aRelease() impl.Release {
	eras := []impl.Era{
		{Offset: 1800, Format: "LMT", Until: 0, Of: "s"},
		{Offset: 3600, Save: 3600, Format: "CEST", Until: 1000, Of: "u"},
		{Offset: 3600, Rules: "E", Format: "CE%sT", Until: impl.MaxTime, Of: "w"},
	}
	return impl.Release{
		Rules: []impl.Rule{aRule, {Name: "E", From: 1980, To: 9999, Month: 10, On: "lastSun", At: 3600, Of: "u"}},
		Zones: []impl.Zone{{Name: "P", Eras: eras}, {Name: "Q", Eras: []impl.Era{aLast}}},
		Links: []impl.Link{{To: "P", Name: "R"}, {To: "Q", Name: "S"}},
	}
}

// isRight asks the same of all calls that take a Release.
func isRight(t *testing.T, what string, r impl.Release, want bool) {
	t.Helper()
	if got := impl.ReleaseRight(r); got != want {
		t.Errorf("%s: is it right? got %v, want %v", what, got, want)
	}
	if want {
		return
	}
	if got := impl.ReleaseText(r); got != "" {
		t.Errorf("%s: got the text %q, want none", what, got)
	}
	for _, name := range []string{"P", "Q", "R", "S"} {
		if got := impl.ZoneOf(r, name); !sameZone(got, impl.Zone{}) {
			t.Errorf("%s: got the zone %+v, want none", what, got)
		}
	}
}

func withRule(change func(*impl.Rule)) impl.Release {
	r := aRelease()
	change(&r.Rules[0])
	return r
}

// withEra changes the second of three Eras.
func withEra(change func(*impl.Era)) impl.Release {
	r := aRelease()
	change(&r.Zones[0].Eras[1])
	return r
}

func withLastEra(change func(*impl.Era)) impl.Release {
	r := aRelease()
	change(&r.Zones[0].Eras[2])
	return r
}

// eachNumber asks of numbers at, and one beyond, their limits, and of extreme ones.
func eachNumber(t *testing.T, what string, least int64, most int64, made func(n int64) impl.Release) {
	t.Helper()
	for _, n := range append([]int64{least - 1, least, least + 1, (least + most) / 2, most - 1, most, most + 1, 0, -1, 1}, extremes...) {
		isRight(t, fmt.Sprint(what, " of ", n), made(n), n >= least && n <= most)
	}
}

func eachText(t *testing.T, what string, right []string, wrong []string, made func(text string) impl.Release) {
	t.Helper()
	for _, text := range right {
		isRight(t, fmt.Sprintf("%s of %q", what, text), made(text), true)
	}
	for _, text := range append(wrong, strings.Repeat("A", impl.MaxBytes), strings.Repeat("A", impl.MaxBytes+1), strings.Repeat("1", impl.MaxBytes+1)) {
		isRight(t, fmt.Sprintf("%s of %.30q", what, text), made(text), false)
	}
}

func TestReleasesThatAreRight(t *testing.T) {
	isRight(t, "the one without anything", impl.Release{}, true)
	isRight(t, "one of each", aRelease(), true)
	isRight(t, "rules alone", impl.Release{Rules: aRelease().Rules}, true)
	isRight(t, "one zone", impl.Release{Zones: aRelease().Zones[1:]}, true)
}

func TestNumbersOfRules(t *testing.T) {
	eachNumber(t, "From", 1, 1990, func(n int64) impl.Release { return withRule(func(r *impl.Rule) { r.From = n }) })
	eachNumber(t, "To", 1980, 9999, func(n int64) impl.Release { return withRule(func(r *impl.Rule) { r.To = n }) })
	eachNumber(t, "both years", 1, 9999, func(n int64) impl.Release { return withRule(func(r *impl.Rule) { r.From, r.To = n, n }) })
	eachNumber(t, "Month", 1, 12, func(n int64) impl.Release { return withRule(func(r *impl.Rule) { r.Month = n }) })
	eachNumber(t, "At", 0, 604800, func(n int64) impl.Release { return withRule(func(r *impl.Rule) { r.At = n }) })
	eachNumber(t, "Save", -7200, 7200, func(n int64) impl.Release { return withRule(func(r *impl.Rule) { r.Save = n }) })
}

var (
	rightNames = []string{"a", "Z", "E9_/+-", "Rule", strings.Repeat("a", 20)}
	wrongNames = []string{"", "1", "-", "_", "a b", "a\n", "a#", "a.", "é", strings.Repeat("a", 21)}
	rightOfs   = []string{"w", "s", "u"}
	wrongOfs   = []string{"", "W", "S", "U", "ws", "z", "g", " ", "-", "w "}
)

func TestTextsOfRules(t *testing.T) {
	// The Rules that an Era names must be there: these Rules are more than it needs.
	named := func(text string) impl.Release {
		r := aRelease()
		r.Rules = append(r.Rules, aRuleBut(func(rule *impl.Rule) { rule.Name = text }))
		return r
	}
	eachText(t, "a Rule's Name", rightNames, wrongNames, named)
	on := func(text string) impl.Release { return withRule(func(r *impl.Rule) { r.On, r.Month = text, 2 }) }
	eachText(t, "On", []string{"1", "01", "31", "lastMon", "Sun>=31", "Sat<=1"}, []string{"", "0", "32", "001", "last", "Sun", "Sun>=0", "Sun>=32", " 1", "1 ", "1\n", "-1"}, on)
	of := func(text string) impl.Release { return withRule(func(r *impl.Rule) { r.Of = text }) }
	eachText(t, "Of", rightOfs, wrongOfs, of)
	letter := func(text string) impl.Release { return withRule(func(r *impl.Rule) { r.Letter = text }) }
	// A line's - is the empty text, so that none tells this one.
	eachText(t, "Letter", []string{"", "S", "+", "--", "-S", "ABCDEF", "------"}, []string{"-", "ABCDEFG", "1", "S ", " ", "%s", "é", "S#", "S\n"}, letter)
}

func TestNumbersOfEras(t *testing.T) {
	eachNumber(t, "Offset", -86400, 86400, func(n int64) impl.Release { return withEra(func(e *impl.Era) { e.Offset = n }) })
	eachNumber(t, "an Era's Save", -7200, 7200, func(n int64) impl.Release { return withEra(func(e *impl.Era) { e.Save = n }) })
	eachNumber(t, "a Save beside Rules", 0, 0, func(n int64) impl.Release { return withLastEra(func(e *impl.Era) { e.Save = n }) })
	eachNumber(t, "Until", 1, impl.MaxTime-1, func(n int64) impl.Release { return withEra(func(e *impl.Era) { e.Until = n }) })
	eachNumber(t, "the first Until", impl.MinTime, 999, func(n int64) impl.Release {
		r := aRelease()
		r.Zones[0].Eras[0].Until = n
		return r
	})
	eachNumber(t, "the last Until", impl.MaxTime, impl.MaxTime, func(n int64) impl.Release { return withLastEra(func(e *impl.Era) { e.Until = n }) })
	eachNumber(t, "the only Until", impl.MaxTime, impl.MaxTime, func(n int64) impl.Release {
		r := aRelease()
		r.Zones[1].Eras = []impl.Era{{Format: "X", Until: n, Of: "w"}}
		return r
	})
}

func TestTextsOfEras(t *testing.T) {
	format := func(text string) impl.Release { return withEra(func(e *impl.Era) { e.Format = text }) }
	eachText(t, "Format", []string{"A", "/", "%", "-", "A/B", "ABCDEFGHIJKL", "ABCDEF/GHIJK", "CE%sT"}, []string{"", "//", "A/B/C", "ABCDEFGHIJKLM", "ABCDEF/GHIJKL", "A B", "A#", "A\n", "A_B", "é"}, format)
	of := func(text string) impl.Release { return withEra(func(e *impl.Era) { e.Of = text }) }
	eachText(t, "an Era's Of", rightOfs, wrongOfs, of)
	lastOf := func(text string) impl.Release { return withLastEra(func(e *impl.Era) { e.Of = text }) }
	eachText(t, "the last Era's Of", []string{"w"}, append([]string{"s", "u"}, wrongOfs...), lastOf)
	rules := func(text string) impl.Release { return withLastEra(func(e *impl.Era) { e.Rules = text }) }
	eachText(t, "Rules", []string{"", "E"}, []string{"F", "e", "EE", "-", "1:00", "P", " ", "E "}, rules)
	// Where a Rule of that Name is there, it must still be a name.
	both := func(text string) impl.Release {
		r := withLastEra(func(e *impl.Era) { e.Rules = text })
		r.Rules[0].Name = text
		return r
	}
	eachText(t, "Rules that are there", rightNames, wrongNames, both)
}

func TestTextsOfZonesAndLinks(t *testing.T) {
	zone := func(text string) impl.Release {
		r := aRelease()
		r.Zones[1].Name, r.Links[1].To = text, text
		return r
	}
	eachText(t, "a Zone's Name", rightNames, append([]string{"P", "R", "S"}, wrongNames...), zone)
	name := func(text string) impl.Release {
		r := aRelease()
		r.Links[0].Name = text
		return r
	}
	eachText(t, "a Link's Name", rightNames, append([]string{"P", "Q", "S"}, wrongNames...), name)
	to := func(text string) impl.Release {
		r := aRelease()
		r.Links[0].To = text
		return r
	}
	eachText(t, "a Link's To", []string{"P", "Q"}, append([]string{"R", "S", "E", "p", "PP"}, wrongNames...), to)
	// Rules have names of their own.
	r := aRelease()
	r.Zones[0].Name, r.Links[0].To = "E", "E"
	isRight(t, "a Zone and a Rule of one Name", r, true)
}

func TestErasInTheirOrder(t *testing.T) {
	r := aRelease()
	r.Zones[1].Eras = nil
	isRight(t, "a Zone without Eras", r, false)
	r.Zones[1].Eras = []impl.Era{}
	isRight(t, "a Zone of an empty list", r, false)
	r = aRelease()
	slices.Reverse(r.Zones[0].Eras)
	isRight(t, "Eras the other way", r, false)
	r = aRelease()
	r.Zones[0].Eras[0].Until = r.Zones[0].Eras[1].Until
	isRight(t, "two Untils alike", r, false)
	r = aRelease()
	r.Zones[0].Eras = r.Zones[0].Eras[:2]
	isRight(t, "without the last Era", r, false)
	r = aRelease()
	r.Zones[1].Eras = append(r.Zones[1].Eras, aLast)
	isRight(t, "two last Eras", r, false)
}

// manyOf makes a Release of so many things.
func manyOf(rules int, zones int, eras int, links int) impl.Release {
	r := impl.Release{}
	for range rules {
		r.Rules = append(r.Rules, aRule)
	}
	for i := range zones {
		z := impl.Zone{Name: fmt.Sprint("P", i)}
		for k := range eras {
			z.Eras = append(z.Eras, impl.Era{Format: "X", Until: int64(k), Of: "w"})
		}
		z.Eras[eras-1].Until = impl.MaxTime
		r.Zones = append(r.Zones, z)
	}
	for i := range links {
		r.Links = append(r.Links, impl.Link{To: "P0", Name: fmt.Sprint("L", i)})
	}
	return r
}

// Each limit is held, and one beyond is refused, of a Release and of a text (with how many lines there are).
func TestHowManyThereMayBe(t *testing.T) {
	limits := []struct {
		what string
		r    impl.Release
		want bool
	}{
		{"40 Rules", manyOf(40, 1, 1, 1), true}, {"41 Rules", manyOf(41, 1, 1, 1), false},
		{"12 Zones", manyOf(1, 12, 1, 1), true}, {"13 Zones", manyOf(1, 13, 1, 1), false},
		{"8 Eras", manyOf(1, 2, 8, 1), true}, {"9 Eras", manyOf(1, 2, 9, 1), false},
		{"20 Links", manyOf(1, 1, 1, 20), true}, {"21 Links", manyOf(1, 1, 1, 21), false},
		{"40, 12, 1, 20", manyOf(40, 12, 1, 20), true}, {"all and more", manyOf(60, 14, 9, 30), false},
	}
	for _, limit := range limits {
		isRight(t, limit.what, limit.r, limit.want)
		text := madeText(limit.r)
		switch lines := int64(strings.Count(text, "\n")); {
		case limit.want:
			isRelease(t, text, limit.r)
		case len(text) <= impl.MaxBytes:
			isRefused(t, text, lines, impl.ErrForm)
		default:
			isRefused(t, text, 0, impl.ErrSize)
		}
	}
	for _, many := range []int{impl.MaxList, impl.MaxList + 1, 5000} {
		isRight(t, "many Rules", manyOf(many, 1, 1, 1), false)
		isRight(t, "many Zones", manyOf(1, many, 1, 1), false)
		isRight(t, "many Eras", manyOf(1, 1, many, 1), false)
		isRight(t, "many Links", manyOf(1, 1, 1, many), false)
	}
}

func TestTextsWhoseReleaseIsNotRight(t *testing.T) {
	texts := []string{
		"Zone P 0 None X\n", "Zone P 0 e X\n" + ruleLine + "\n", ruleLine + "\nZone P 0 - X 1990\n0 None X\n",
		"Link P Q\n", "Link Q Q\nZone P 0 - X\n", "Zone P 0 - X\nLink P Q\nLink Q R\n", "Zone P 0 - X\nLink P P\n", "Zone P 0 - X\nLink P Q\nLink P Q\n",
		"Zone P 0 - X\nZone P 0 - X\n", "Zone P 0 - X\n\nZone P 1 - Y\n# c\n", "Zone P 0 - X\nZone Q 0 - X\nLink P Q\n", ruleLine + "\nLink E Q\n",
		"Zone P 0 - X 1990\n0 - X 1990\n0 - X\n", "Zone P 0 - X 1991\n0 - X 1990\n0 - X\n", "Zone P 0 - X 1990 Jan 1 0:00:01\n0 - X 1990 Jan 1 0:00:01u\n0 - X\n",
		"Zone P 0 - X 9999 Dec 31 23:59:59\n0 - X\n", "Zone P 0 - X 9999 Dec 30 47:59:59u\n0 - X\n",
	}
	for _, text := range texts {
		isRefused(t, text, int64(strings.Count(text, "\n")), impl.ErrForm)
	}
	isRelease(t, "Zone P 0 - X 1990\n0 - X 1990 Jan 1 0:00:01\n0 - X\n", impl.Release{Zones: []impl.Zone{{Name: "P", Eras: []impl.Era{
		{Format: "X", Until: wallTime(1990, 1, 1, 0), Of: "w"}, {Format: "X", Until: wallTime(1990, 1, 1, 1), Of: "w"}, aLast,
	}}}})
}
