package tests

import (
	"fmt"
	"math/rand"
	"slices"
	"strings"
	"testing"
	"time"

	"loop.example/g00364/impl"
)

// madeText makes the text of a Release by another way than the program, right or not.
func madeText(r impl.Release) string {
	text := ""
	for _, rule := range r.Rules {
		to := fmt.Sprint(rule.To)
		if rule.To == 9999 {
			to = "max"
		}
		if rule.To == rule.From {
			to = "only"
		}
		letter := rule.Letter
		if letter == "" {
			letter = "-"
		}
		text += fmt.Sprintf("Rule %s %d %s - %s %s %s %s %s\n", rule.Name, rule.From, to, time.Month(rule.Month).String()[:3], rule.On, offsetText(rule.At)+strings.TrimPrefix(rule.Of, "w"), offsetText(rule.Save), letter)
	}
	for _, zone := range r.Zones {
		text += "Zone " + zone.Name + " "
		for i, era := range zone.Eras {
			rules := era.Rules
			if rules == "" {
				rules = "-"
			}
			if era.Save != 0 {
				rules = offsetText(era.Save)
			}
			text += offsetText(era.Offset) + " " + rules + " " + era.Format
			if i < len(zone.Eras)-1 {
				at := time.Unix(era.Until, 0).UTC()
				clock := int64(at.Hour()*3600 + at.Minute()*60 + at.Second())
				text += fmt.Sprintf(" %d %s %s", at.Year(), at.Format("Jan 2"), offsetText(clock)+strings.TrimPrefix(era.Of, "w"))
			}
			text += "\n"
		}
	}
	for _, link := range r.Links {
		text += "Link " + link.To + " " + link.Name + "\n"
	}
	return text
}

// chance makes things by a fixed row of numbers, so that each run has the same.
type chance struct {
	*rand.Rand
}

func newChance(seed int64) chance {
	return chance{rand.New(rand.NewSource(seed))}
}

// from is a number from least to most, the limits more often than others.
func (c chance) from(least int64, most int64) int64 {
	switch c.Intn(6) {
	case 0:
		return least
	case 1:
		return most
	}
	return least + c.Int63n(most-least+1)
}

// text is one of some bytes.
func (c chance) text(bytes string, least int, most int) string {
	text := ""
	for range c.from(int64(least), int64(most)) {
		text += string(bytes[c.Intn(len(bytes))])
	}
	return text
}

const (
	letterBytes = "ABCXYZabcxyz"
	nameBytes   = letterBytes + "0189_/+-"
)

func (c chance) name() string {
	return c.text(letterBytes, 1, 1) + c.text(nameBytes, 0, 19)
}

func (c chance) of() string {
	return c.text("wsu", 1, 1)
}

func (c chance) on() string {
	weekday := time.Weekday(c.Intn(7)).String()[:3]
	digits := fmt.Sprintf([]string{"%d", "%02d"}[c.Intn(2)], c.from(1, 31))
	return []string{digits, "last" + weekday, weekday + ">=" + digits, weekday + "<=" + digits}[c.Intn(4)]
}

func (c chance) letter() string {
	letter := c.text(letterBytes+"+-", 0, 6)
	if letter == "-" {
		return ""
	}
	return letter
}

func (c chance) rule() impl.Rule {
	from := c.from(1, 9999)
	return impl.Rule{Name: c.name(), From: from, To: c.from(from, 9999), Month: c.from(1, 12), On: c.on(), At: c.from(0, 604800), Of: c.of(), Save: c.from(-7200, 7200), Letter: c.letter()}
}

func (c chance) format() string {
	format := c.text(letterBytes+"0189+-%", 1, 11)
	if c.Intn(2) == 0 {
		cut := c.Intn(len(format) + 1)
		format = format[:cut] + "/" + format[cut:]
	}
	return format
}

func (c chance) era(rules []impl.Rule) impl.Era {
	era := impl.Era{Offset: c.from(-86400, 86400), Format: c.format(), Of: c.of()}
	switch c.Intn(3) {
	case 0:
		era.Save = c.from(-7200, 7200)
	case 1:
		if len(rules) > 0 {
			era.Rules = rules[c.Intn(len(rules))].Name
		}
	}
	return era
}

func (c chance) zone(name string, rules []impl.Rule, most int64) impl.Zone {
	untils := []int64{}
	for range c.from(1, most) - 1 {
		untils = append(untils, c.from(impl.MinTime, impl.MaxTime-1))
	}
	slices.Sort(untils)
	zone := impl.Zone{Name: name}
	for _, until := range slices.Compact(untils) {
		era := c.era(rules)
		era.Until = until
		zone.Eras = append(zone.Eras, era)
	}
	last := c.era(rules)
	last.Until, last.Of = impl.MaxTime, "w"
	zone.Eras = append(zone.Eras, last)
	return zone
}

// release is a right one; the Names of its Zones and Links begin with their places, so that no two are alike.
func (c chance) release(rules int64, zones int64, eras int64, links int64) impl.Release {
	r := impl.Release{}
	for range c.from(0, rules) {
		r.Rules = append(r.Rules, c.rule())
	}
	for i := range c.from(0, zones) {
		r.Zones = append(r.Zones, c.zone(fmt.Sprintf("%c", 'a'+i)+c.text(nameBytes, 0, 19), r.Rules, eras))
	}
	if len(r.Zones) == 0 {
		return r
	}
	for i := range c.from(0, links) {
		to := r.Zones[c.Intn(len(r.Zones))].Name
		r.Links = append(r.Links, impl.Link{To: to, Name: fmt.Sprintf("%c", 'A'+i) + c.text(nameBytes, 0, 19)})
	}
	return r
}

// comesBack holds promise 4, and each word of the text, of a right Release.
func comesBack(t *testing.T, r impl.Release) {
	t.Helper()
	want := madeText(r)
	if len(want) > impl.MaxBytes {
		want = ""
	}
	got := impl.ReleaseText(r)
	if !impl.ReleaseRight(r) || got != want {
		t.Fatalf("right: %v; got the text %q, want %q, of %+v", impl.ReleaseRight(r), got, want, r)
	}
	if got != "" || len(r.Rules)+len(r.Zones) == 0 {
		isRelease(t, got, r)
	}
}

// Promise 4.
func TestRightReleasesComeBackFromTheirTexts(t *testing.T) {
	comesBack(t, impl.Release{})
	comesBack(t, aRelease())
	c := newChance(4)
	for range 1500 {
		comesBack(t, c.release(4, 4, 4, 4))
	}
	for range 500 {
		comesBack(t, c.release(40, 12, 8, 20))
	}
}

func TestTheWordsOfAText(t *testing.T) {
	want := "Rule E 1980 1990 - Mar lastSun 1:00u 1:00 S\nRule E 1980 max - Oct lastSun 1:00u 0:00 -\n" +
		"Zone P 0:30 - LMT 1970 Jan 1 0:00s\n1:00 1:00 CEST 1970 Jan 1 0:16:40u\n1:00 E CE%sT\nZone Q 0:00 - X\nLink P R\nLink Q S\n"
	if got := impl.ReleaseText(aRelease()); got != want {
		t.Errorf("got %q, want %q", got, want)
	}
	years := map[[2]int64]string{{1, 1}: "1 only", {1, 2}: "1 2", {1, 9999}: "1 max", {1, 9998}: "1 9998", {87, 987}: "87 987", {9998, 9999}: "9998 max", {9999, 9999}: "9999 only"}
	for year, words := range years {
		r := impl.Release{Rules: []impl.Rule{aRuleBut(func(r *impl.Rule) { r.From, r.To = year[0], year[1] })}}
		if got, want := impl.ReleaseText(r), strings.Replace(ruleLine, "1980 1990", words, 1)+"\n"; got != want {
			t.Errorf("got %q, want %q", got, want)
		}
	}
}

// bytesMany makes a right Release whose text has just so many bytes: its Formats are as long as it takes.
func bytesMany(t *testing.T, many int) impl.Release {
	r := impl.Release{}
	for i := range 40 {
		r.Rules = append(r.Rules, aRuleBut(func(r *impl.Rule) { r.Name = fmt.Sprintf("Rule_of_many_bytes%02d", i) }))
	}
	for i := range 12 {
		zone := impl.Zone{Name: fmt.Sprintf("Zone_of_many_bytes%02d", i)}
		for k := range 8 {
			zone.Eras = append(zone.Eras, impl.Era{Offset: -86399, Save: -7199, Format: "F", Until: wallTime(1990+k, 9, 30, 86399), Of: "s"})
		}
		zone.Eras[7].Until, zone.Eras[7].Of = impl.MaxTime, "w"
		r.Zones = append(r.Zones, zone)
	}
	for i := range 10 {
		r.Links = append(r.Links, impl.Link{To: r.Zones[i].Name, Name: fmt.Sprintf("Link_of_many_bytes%02d", i)})
	}
	lacks := many - len(madeText(r))
	for i := range r.Zones {
		for k := range r.Zones[i].Eras {
			more := max(0, min(lacks, 11))
			r.Zones[i].Eras[k].Format += strings.Repeat("F", more)
			lacks -= more
		}
	}
	if got := len(madeText(r)); got != many {
		t.Fatalf("a text of %d bytes was made for %d", got, many)
	}
	return r
}

func TestReleasesOfLongTexts(t *testing.T) {
	for _, many := range []int{impl.MaxBytes - 1, impl.MaxBytes} {
		r := bytesMany(t, many)
		comesBack(t, r)
		if got := len(impl.ReleaseText(r)); got != many {
			t.Errorf("got %d bytes, want %d", got, many)
		}
	}
	for _, many := range []int{impl.MaxBytes + 1, impl.MaxBytes + 50} {
		r := bytesMany(t, many)
		isRight(t, "a long one", r, true)
		if got := impl.ReleaseText(r); got != "" {
			t.Errorf("got a text of %d bytes, want none", len(got))
		}
	}
}

// A text's other forms (more blanks and tabs, comments, empty lines, 9999 for max) tell the same.
func TestTextsOfOtherFormsTellTheSame(t *testing.T) {
	c := newChance(5)
	for range 400 {
		r := c.release(3, 3, 3, 3)
		text := ""
		for _, line := range strings.SplitAfter(madeText(r), "\n") {
			line = strings.ReplaceAll(line, " max ", " 9999 ")
			line = strings.ReplaceAll(line, " ", c.text(" \t", 1, 4))
			if strings.HasSuffix(line, "\n") {
				line = c.text(" \t", 0, 2) + strings.TrimSuffix(line, "\n") + c.text(" \t", 0, 2) + c.text("#", 0, 1) + "\n"
			}
			text += c.text("\n", 0, 2) + line
		}
		text += c.text("\n", 0, 2)
		isRelease(t, text, r)
	}
}

func TestZoneOf(t *testing.T) {
	r := aRelease()
	names := map[string]int{"P": 0, "R": 0, "Q": 1, "S": 1}
	for name, place := range names {
		if got := impl.ZoneOf(r, name); !sameZone(got, r.Zones[place]) {
			t.Errorf("%s: got %+v, want %+v", name, got, r.Zones[place])
		}
	}
	for _, name := range []string{"", "E", "T", "p", "PP", "P ", "LMT", strings.Repeat("P", impl.MaxBytes), strings.Repeat("P", impl.MaxBytes+1)} {
		if got := impl.ZoneOf(r, name); !sameZone(got, impl.Zone{}) {
			t.Errorf("%.20q: got %+v, want none", name, got)
		}
	}
	if got := impl.ZoneOf(impl.Release{}, ""); !sameZone(got, impl.Zone{}) {
		t.Errorf("got %+v, want none", got)
	}
}

// An answer's lists are its own: what is changed in them is changed nowhere else.
func TestAnswersAreNewMemory(t *testing.T) {
	r := aRelease()
	zone := impl.ZoneOf(r, "R")
	zone.Eras[0] = aLast
	_ = append(zone.Eras[:1], aLast, aLast)
	if !sameRelease(r, aRelease()) {
		t.Errorf("the Release has become %+v", r)
	}
	read := impl.ReleaseRead(impl.ReleaseText(r)).Release
	for i := range read.Zones {
		other := 1 - i
		want := slices.Clone(read.Zones[other].Eras)
		eras := read.Zones[i].Eras
		for k := range eras[:cap(eras)] {
			eras[:cap(eras)][k] = impl.Era{}
		}
		if !slices.Equal(read.Zones[other].Eras, want) {
			t.Errorf("the Eras of Zone %d have become %+v", other, read.Zones[other].Eras)
		}
		read = impl.ReleaseRead(impl.ReleaseText(r)).Release
	}
}

func TestWhatIsHandedInStays(t *testing.T) {
	r := aRelease()
	slices.Reverse(r.Zones)
	slices.Reverse(r.Links)
	slices.Reverse(r.Rules)
	want := impl.Release{Rules: slices.Clone(r.Rules), Zones: slices.Clone(r.Zones), Links: slices.Clone(r.Links)}
	impl.ReleaseRight(r)
	impl.ReleaseText(r)
	impl.ZoneOf(r, "S")
	if !sameRelease(r, want) {
		t.Errorf("the Release has become %+v", r)
	}
	comesBack(t, r)
}
