package tests

import (
	"slices"
	"strings"
	"testing"
	"time"

	"loop.example/g00364/impl"
)

// turnText writes a Turn for those that are to be read: when, the Offset, the Save and the abbreviation.
func turnText(turn impl.Turn) string {
	at := time.Unix(turn.At, 0).UTC().Format(time.DateTime)
	return at + " " + offsetText(turn.Offset) + " " + offsetText(turn.Save) + " " + turn.Abbr
}

const (
	atFirst = "0001-01-01 00:00:00 "
	atLast  = "9999-12-31 23:59:59 "
)

// isTurns asks for the Turns of a table, written as turnText does.
func isTurns(t *testing.T, r impl.Release, name string, want ...string) {
	t.Helper()
	out := impl.TableOf(r, name)
	got := []string{}
	for _, turn := range out.Table.Turns {
		got = append(got, turnText(turn))
	}
	if out.Code != impl.OK || !slices.Equal(got, want) {
		t.Errorf("%s: got the code %d and\n%s,\nwant\n%s", name, out.Code, strings.Join(got, "\n"), strings.Join(want, "\n"))
	}
}

func isTableCode(t *testing.T, what string, r impl.Release, name string, code int64) {
	t.Helper()
	out := impl.TableOf(r, name)
	if out.Code != code {
		t.Errorf("%s: got the code %d, want %d", what, out.Code, code)
	}
	if code != impl.OK && len(out.Table.Turns) > 0 {
		t.Errorf("%s: got %d Turns beside the code %d", what, len(out.Table.Turns), out.Code)
	}
}

func TestTablesOfErasWithoutRules(t *testing.T) {
	r := readRelease(t,
		"Zone A 1:00 - X", "Zone B 1:00 0:30 X", "Zone C 1:00 0:30 X%s/Y%sZ", "Zone D -24:00 -2:00 X/Y", "Zone E 24:00 2:00 X%s", "Zone F 0 0 X%s/Y%sZ", "Zone G 0:00:01 -0:00:01 /%s",
	)
	isTurns(t, r, "A", atFirst+"1:00 0:00 X")
	isTurns(t, r, "B", atFirst+"1:30 0:30 X")
	isTurns(t, r, "C", atFirst+"1:30 0:30 YZ")
	isTurns(t, r, "D", atFirst+"-26:00 -2:00 Y")
	isTurns(t, r, "E", atFirst+"26:00 2:00 X")
	isTurns(t, r, "F", atFirst+"0:00 0:00 X")
	isTurns(t, r, "G", atFirst+"0:00 -0:00:01 ")
}

func TestATableByRules(t *testing.T) {
	r := readRelease(t,
		"Rule E 1980 1981 - Mar lastSun 1:00u 1:00 S", "Rule E 1980 1981 - Oct lastSun 2:00s 0 -", "Rule E 1982 only - May 1 0:00 2:00 M", "Rule E 1982 only - Jun 1 0:00 0 -",
		"Zone P 1:00 E CE%sT", "Zone Q -3:30 E A/B%s",
	)
	isTurns(t, r, "P", atFirst+"1:00 0:00 CET",
		"1980-03-30 01:00:00 2:00 1:00 CEST", "1980-10-26 01:00:00 1:00 0:00 CET",
		"1981-03-29 01:00:00 2:00 1:00 CEST", "1981-10-25 01:00:00 1:00 0:00 CET",
		"1982-04-30 23:00:00 3:00 2:00 CEMT", "1982-05-31 21:00:00 1:00 0:00 CET")
	isTurns(t, r, "Q", atFirst+"-3:30 0:00 A",
		"1980-03-30 01:00:00 -2:30 1:00 BS", "1980-10-26 05:30:00 -3:30 0:00 A",
		"1981-03-29 01:00:00 -2:30 1:00 BS", "1981-10-25 05:30:00 -3:30 0:00 A",
		"1982-05-01 03:30:00 -1:30 2:00 BM", "1982-06-01 01:30:00 -3:30 0:00 A")
}

func TestWhatIsInForceAheadOfAll(t *testing.T) {
	r := readRelease(t,
		"Rule A 2001 only - Mar 1 0:00 0 z", "Rule A 2000 only - Oct 1 0:00u 0 y", "Rule A 2000 only - Mar 1 0:00u 1:00 x",
		"Rule B 2000 only - Mar 1 0:00u 1:00 x",
		"Rule C 1959 only - Mar 1 0:00u 0 x", "Rule C 2038 only - Mar 1 0:00u 1:00 y",
		"Zone A 0 A F%s", "Zone B 0 B F%s/G%s", "Zone C 0 C F%s",
	)
	isTurns(t, r, "A", atFirst+"0:00 0:00 Fy", "2000-03-01 00:00:00 1:00 1:00 Fx", "2000-10-01 00:00:00 0:00 0:00 Fy", "2001-03-01 00:00:00 0:00 0:00 Fz")
	isTurns(t, r, "B", atFirst+"0:00 0:00 F", "2000-03-01 00:00:00 1:00 1:00 Gx")
	isTurns(t, r, "C", atFirst+"0:00 0:00 F")
}

// In force is the last by wall times, also where its instant is ahead of others'.
func TestWhatIsNeverInForce(t *testing.T) {
	r := readRelease(t,
		"Rule A 2000 only - Mar 5 10:00 0:30 x", "Rule A 2000 only - Mar 5 9:00u 1:00 y", "Rule A 2000 only - Mar 5 10:30 2:00 z",
		"Rule B 2000 only - Mar 5 9:00u 1:00 x", "Rule B 2000 only - Mar 5 9:00u 0:30 y", "Rule B 2000 only - Mar 5 9:00u 2:00 z",
		"Zone A 12:00 A %s", "Zone B -12:00 A %s", "Zone C 12:00 B %s",
	)
	isTurns(t, r, "A", atFirst+"12:00 0:00 ", "2000-03-04 21:00:00 12:30 0:30 x", "2000-03-04 22:00:00 14:00 2:00 z")
	isTurns(t, r, "B", atFirst+"-12:00 0:00 ", "2000-03-05 09:00:00 -11:00 1:00 y", "2000-03-05 21:00:00 -11:30 0:30 x", "2000-03-05 22:00:00 -10:00 2:00 z")
	isTurns(t, r, "C", atFirst+"12:00 0:00 ", "2000-03-05 09:00:00 14:00 2:00 z")
}

func TestWhereErasEnd(t *testing.T) {
	r := readRelease(t,
		"Rule A 2000 only - Apr 1 0:00u 1:00 x", "Rule A 2000 only - Oct 1 0:00u 0 y",
		"Zone Aw 2:00 A %s 2000 Jul 1 12:00", "0 - Y", "Zone As 2:00 A %s 2000 Jul 1 12:00s", "0 - Y", "Zone Au 2:00 A %s 2000 Jul 1 12:00u", "0 - Y",
		"Zone Nw 2:00 0:30 X 2000 Jul 1 12:00", "0 - Y", "Zone Ns 2:00 0:30 X 2000 Jul 1 12:00s", "0 - Y", "Zone Nu 2:00 0:30 X 2000 Jul 1 12:00u", "0 - Y",
	)
	isTurns(t, r, "Aw", atFirst+"2:00 0:00 y", "2000-04-01 00:00:00 3:00 1:00 x", "2000-07-01 09:00:00 0:00 0:00 Y")
	isTurns(t, r, "As", atFirst+"2:00 0:00 y", "2000-04-01 00:00:00 3:00 1:00 x", "2000-07-01 10:00:00 0:00 0:00 Y")
	isTurns(t, r, "Au", atFirst+"2:00 0:00 y", "2000-04-01 00:00:00 3:00 1:00 x", "2000-07-01 12:00:00 0:00 0:00 Y")
	isTurns(t, r, "Nw", atFirst+"2:30 0:30 X", "2000-07-01 09:30:00 0:00 0:00 Y")
	isTurns(t, r, "Ns", atFirst+"2:30 0:30 X", "2000-07-01 10:00:00 0:00 0:00 Y")
	isTurns(t, r, "Nu", atFirst+"2:30 0:30 X", "2000-07-01 12:00:00 0:00 0:00 Y")
}

// The save of an end of w is that of one second ahead of it, by the Offset alone.
func TestWhichSaveAnEndIsLess(t *testing.T) {
	r := readRelease(t,
		"Rule A 2000 only - Apr 1 0:00u 1:00 x", "Rule A 2000 only - Oct 1 0:00u 0 y",
		"Zone A 3:00 A %s 2000 Apr 1 3:00", "0 - Y", "Zone B 3:00 A %s 2000 Apr 1 3:00:01", "0 - Y",
		"Zone C 3:00 A %s 2000 Oct 1 3:00", "0 - Y", "Zone D 3:00 A %s 2000 Oct 1 3:00:01", "0 - Y",
		"Zone E 3:00 A %s 2000 Apr 1 4:00:01", "0 - Y",
	)
	isTurns(t, r, "A", atFirst+"3:00 0:00 y", "2000-04-01 00:00:00 0:00 0:00 Y")
	isTurns(t, r, "B", atFirst+"3:00 0:00 y", "2000-03-31 23:00:01 0:00 0:00 Y")
	isTurns(t, r, "C", atFirst+"3:00 0:00 y", "2000-04-01 00:00:00 4:00 1:00 x", "2000-09-30 23:00:00 0:00 0:00 Y")
	isTurns(t, r, "D", atFirst+"3:00 0:00 y", "2000-04-01 00:00:00 4:00 1:00 x", "2000-10-01 00:00:00 3:00 0:00 y", "2000-10-01 00:00:01 0:00 0:00 Y")
	isTurns(t, r, "E", atFirst+"3:00 0:00 y", "2000-04-01 00:00:00 4:00 1:00 x", "2000-04-01 00:00:01 0:00 0:00 Y")
}

// What happens just where an Era begins is in force there; what happens where it ends is the next one's.
func TestWhatHappensWhereErasMeet(t *testing.T) {
	r := readRelease(t,
		"Rule A 2000 only - Apr 1 0:00u 1:00 x", "Rule A 2000 only - Oct 1 0:00u 0 y",
		"Zone A 1:00 - F 2000 Mar 31 23:59:59u", "2:00 A %s 2000 Oct 1 0:00:01u", "3:00 - L",
		"Zone B 1:00 - F 2000 Apr 1 0:00u", "2:00 A %s 2000 Oct 1 0:00u", "3:00 - L",
		"Zone C 1:00 - F 2000 Apr 1 0:00:01u", "2:00 A %s 2000 Sep 30 23:59:59u", "3:00 A L",
	)
	isTurns(t, r, "A", atFirst+"1:00 0:00 F", "2000-03-31 23:59:59 2:00 0:00 y", "2000-04-01 00:00:00 3:00 1:00 x", "2000-10-01 00:00:00 2:00 0:00 y", "2000-10-01 00:00:01 3:00 0:00 L")
	isTurns(t, r, "B", atFirst+"1:00 0:00 F", "2000-04-01 00:00:00 3:00 1:00 x", "2000-10-01 00:00:00 3:00 0:00 L")
	isTurns(t, r, "C", atFirst+"1:00 0:00 F", "2000-04-01 00:00:01 3:00 1:00 x", "2000-09-30 23:59:59 4:00 1:00 L", "2000-10-01 00:00:00 3:00 0:00 L")
}

func TestErasThatEndWhereTheyBegin(t *testing.T) {
	r := readRelease(t,
		"Rule A 2000 only - Jan 1 0:00u 1:00 x", "Rule A 2000 only - Jan 1 8:00u 2:00 y",
		"Zone A -10:00 - F 2000 Jan 1 0:00", "10:00 - M 2000 Jan 1 12:00", "0 - L",
		"Zone B -10:00 - F 2000 Jan 1 0:00", "10:00 - M 2000 Jan 1 20:00", "0 - L",
		"Zone C -10:00 - F 2000 Jan 1 0:00", "10:00 - M 2000 Jan 1 20:00:01", "0 - L",
		"Zone D -10:00 - F 2000 Jan 1 0:00", "10:00 A M 2000 Jan 1 12:00", "0 A L%s",
		"Zone E -10:00 - F 2000 Jan 1 0:00", "10:00 - M 2000 Jan 1 12:00", "11:00 - N 2000 Jan 1 13:00s", "12:00 - O 2000 Jan 1 14:00u", "0 - L",
		"Zone F -10:00 - F 2000 Jan 1 0:00", "10:00 - M 2000 Jan 1 12:00", "-10:00 - F",
	)
	isTurns(t, r, "A", atFirst+"-10:00 0:00 F", "2000-01-01 10:00:00 0:00 0:00 L")
	isTurns(t, r, "B", atFirst+"-10:00 0:00 F", "2000-01-01 10:00:00 0:00 0:00 L")
	isTurns(t, r, "C", atFirst+"-10:00 0:00 F", "2000-01-01 10:00:00 10:00 0:00 M", "2000-01-01 10:00:01 0:00 0:00 L")
	isTurns(t, r, "D", atFirst+"-10:00 0:00 F", "2000-01-01 10:00:00 2:00 2:00 Ly")
	isTurns(t, r, "E", atFirst+"-10:00 0:00 F", "2000-01-01 10:00:00 12:00 0:00 O", "2000-01-01 14:00:00 0:00 0:00 L")
	isTurns(t, r, "F", atFirst+"-10:00 0:00 F")
}

func TestErasAtBothEndsOfTime(t *testing.T) {
	r := readRelease(t,
		"Zone A 1:00 - F 1 Jan 1 0:30", "2:00 - L",
		"Zone B 1:00 - F 1 Jan 1 1:00", "2:00 - L",
		"Zone C 1:00 - F 1 Jan 1 1:00:01", "2:00 - L",
		"Zone D 1:00 - F 1 Jan 1 0:10", "2:00 - M 1 Jan 1 0:20", "3:00 - N 1 Jan 1 0:30s", "4:00 - L",
		"Zone E -1:00 - F 9999 Dec 31 23:30", "2:00 - L",
		"Zone F -1:00 - F 9999 Dec 31 22:59:59", "2:00 - L",
		"Zone G -1:00 - F 9999 Dec 31 22:59:58", "2:00 - L",
		"Zone H -1:00 - F 9999 Dec 31 23:30", "2:00 - M 9999 Dec 31 23:40", "-2:00 - N 9999 Dec 31 23:50s", "-1:00 - L",
		"Zone I -1:00 - F 9999 Dec 31 23:30", "-1:00 - F",
		"Zone J 0 - F 9999 Dec 31 23:59:58u", "0 1:00 L",
	)
	isTurns(t, r, "A", atFirst+"2:00 0:00 L")
	isTurns(t, r, "B", atFirst+"2:00 0:00 L")
	isTurns(t, r, "C", atFirst+"1:00 0:00 F", "0001-01-01 00:00:01 2:00 0:00 L")
	isTurns(t, r, "D", atFirst+"4:00 0:00 L")
	isTurns(t, r, "E", atFirst+"-1:00 0:00 F", atLast+"2:00 0:00 L")
	isTurns(t, r, "F", atFirst+"-1:00 0:00 F", atLast+"2:00 0:00 L")
	isTurns(t, r, "G", atFirst+"-1:00 0:00 F", "9999-12-31 23:59:58 2:00 0:00 L")
	isTurns(t, r, "H", atFirst+"-1:00 0:00 F", atLast+"-1:00 0:00 L")
	isTurns(t, r, "I", atFirst+"-1:00 0:00 F")
	isTurns(t, r, "J", atFirst+"0:00 0:00 F", "9999-12-31 23:59:58 1:00 1:00 L")
}

func TestTurnsThatAreLikeTheOneAhead(t *testing.T) {
	r := readRelease(t,
		"Rule A 2000 2003 - Apr 1 0:00u 1:00 x", "Rule A 2002 only - Oct 1 0:00u 1:00 y", "Rule A 2003 only - Oct 1 0:00u 0 z",
		"Zone A 0 A X%s", "Zone B 0 A X", "Zone C 0 A X/Y%s",
		"Zone D 1:00 - X 2000", "1:00 - X 2001", "1:00 - X%s",
		"Zone E 1:00 - X 2000", "0:30 0:30 X 2001", "1:00 - X 2002", "1:00 - Y 2003", "2:00 -1:00 Y",
		"Zone F 0 1:00 Xx 2001 Jan 1 0:00u", "0 A X%s",
	)
	isTurns(t, r, "A", atFirst+"0:00 0:00 Xz", "2000-04-01 00:00:00 1:00 1:00 Xx", "2002-10-01 00:00:00 1:00 1:00 Xy", "2003-04-01 00:00:00 1:00 1:00 Xx", "2003-10-01 00:00:00 0:00 0:00 Xz")
	isTurns(t, r, "B", atFirst+"0:00 0:00 X", "2000-04-01 00:00:00 1:00 1:00 X", "2003-10-01 00:00:00 0:00 0:00 X")
	isTurns(t, r, "C", atFirst+"0:00 0:00 X", "2000-04-01 00:00:00 1:00 1:00 Yx", "2002-10-01 00:00:00 1:00 1:00 Yy", "2003-04-01 00:00:00 1:00 1:00 Yx", "2003-10-01 00:00:00 0:00 0:00 X")
	isTurns(t, r, "D", atFirst+"1:00 0:00 X")
	isTurns(t, r, "E", atFirst+"1:00 0:00 X", "1999-12-31 23:00:00 1:00 0:30 X", "2000-12-31 23:00:00 1:00 0:00 X", "2001-12-31 23:00:00 1:00 0:00 Y", "2002-12-31 23:00:00 1:00 -1:00 Y")
	isTurns(t, r, "F", atFirst+"1:00 1:00 Xx", "2002-10-01 00:00:00 1:00 1:00 Xy", "2003-04-01 00:00:00 1:00 1:00 Xx", "2003-10-01 00:00:00 0:00 0:00 Xz")
}

// zoneBy is a Release of Rules and a Zone P of one Era by those of the Name A, or of more Eras.
func zoneBy(rules []impl.Rule, eras ...impl.Era) impl.Release {
	eras = append(eras, impl.Era{Rules: "A", Format: "%s", Until: impl.MaxTime, Of: "w"})
	return impl.Release{Rules: rules, Zones: []impl.Zone{{Name: "P", Eras: eras}, {Name: "Q", Eras: []impl.Era{aLast}}}, Links: []impl.Link{{To: "P", Name: "R"}, {To: "Q", Name: "S"}}}
}

func TestHowManyTurnsThereMayBe(t *testing.T) {
	for _, many := range []int64{1, 598, 599} {
		r := zoneBy(manyRules(many))
		isTableCode(t, "few", r, "P", impl.OK)
		if got := int64(len(impl.TableOf(r, "P").Table.Turns)); got != many+1 {
			t.Errorf("got %d Turns, want %d", got, many+1)
		}
		isTableCode(t, "few", r, "R", impl.OK)
	}
	for _, many := range []int64{600, 601, 1000, 2000, 2001, 3120} {
		r := zoneBy(manyRules(many))
		isTableCode(t, "many", r, "P", impl.ErrFull)
		isTableCode(t, "many", r, "R", impl.ErrFull)
		isTableCode(t, "another zone", r, "Q", impl.OK)
		isTableCode(t, "another zone's link", r, "S", impl.OK)
	}
	// An Era of one second has no Turn but where it begins; one that is like the one ahead is none.
	short := impl.Era{Format: "F", Until: impl.MinTime + 1, Of: "u"}
	like := impl.Era{Format: "/", Until: impl.MinTime + 1, Of: "u"}
	isTableCode(t, "a Turn more", zoneBy(manyRules(598), short), "P", impl.OK)
	isTableCode(t, "a Turn more", zoneBy(manyRules(599), short), "P", impl.ErrFull)
	isTableCode(t, "an Era that is like the next", zoneBy(manyRules(599), like), "P", impl.OK)
	alike := manyRules(599 + 79)
	for i := range alike {
		if alike[i].Month >= 8 {
			alike[i].Letter = alike[6].Letter
		}
	}
	isTableCode(t, "some that are like those ahead", zoneBy(alike), "P", impl.OK)
}

func TestHowManyMayHappenInAnEra(t *testing.T) {
	late := impl.Era{Rules: "A", Format: "X/Y", Until: wallTime(1960, 6, 1, 0), Of: "u"}
	noTurn := impl.Era{Offset: 86400, Rules: "A", Format: "X/Y", Until: impl.MinTime, Of: "s"}
	for name, first := range map[string]impl.Era{"an Era of few Turns": late, "an Era without a Turn": noTurn} {
		for many, code := range map[int64]int64{2000: impl.OK, 2001: impl.ErrFull} {
			r := zoneBy(manyRules(many), first)
			r.Zones[0].Eras[1] = aLast
			isTableCode(t, name, r, "P", code)
		}
	}
	// Each Era's are counted alone.
	rules := manyRules(1200)
	for i := range rules {
		rules[i].Letter = ""
	}
	second := slices.Clone(rules)
	for i := range second {
		second[i].Name = "B"
	}
	r := zoneBy(append(rules, second...), impl.Era{Rules: "B", Format: "X", Until: 0, Of: "w"})
	isTableCode(t, "two Eras of 1200", r, "P", impl.OK)
}

func TestTheOrderOfFaults(t *testing.T) {
	full := zoneBy(manyRules(2001))
	wrong := zoneBy(manyRules(2001))
	wrong.Rules[0].At = -1
	long := strings.Repeat("P", impl.MaxBytes+1)
	for _, name := range []string{"P", "R", "X", "", long[1:]} {
		isTableCode(t, "not right", wrong, name, impl.ErrForm)
	}
	for _, name := range []string{"X", "", "A", "p", "PP", "P ", long[1:]} {
		isTableCode(t, "none of that name", full, name, impl.ErrNone)
		isTableCode(t, "none of that name", impl.Release{}, name, impl.ErrNone)
	}
	for _, r := range []impl.Release{full, wrong, aRelease(), {}} {
		isTableCode(t, "a long name", r, long, impl.ErrSize)
	}
	for _, name := range []string{"P", "R"} {
		isTableCode(t, "full", full, name, impl.ErrFull)
	}
	eachFault := []impl.Release{
		withRule(func(r *impl.Rule) { r.On = "0" }), withEra(func(e *impl.Era) { e.Format = "" }), withLastEra(func(e *impl.Era) { e.Until-- }), withLastEra(func(e *impl.Era) { e.Rules = "None" }),
	}
	for _, r := range eachFault {
		for _, name := range []string{"P", "Q", "R", "S", "T"} {
			isTableCode(t, "not right", r, name, impl.ErrForm)
		}
	}
}

// Promise 6, by hand.
func TestTheTableOfALink(t *testing.T) {
	r := aRelease()
	for link, zone := range map[string]string{"R": "P", "S": "Q"} {
		got, want := impl.TableOf(r, link), impl.TableOf(r, zone)
		if got.Code != impl.OK || !slices.Equal(got.Table.Turns, want.Table.Turns) {
			t.Errorf("%s: got %+v, want %+v", link, got, want)
		}
	}
	isTurns(t, r, "S", atFirst+"0:00 0:00 X")
	// A Link and the Rules may have one Name.
	r.Links = append(r.Links, impl.Link{To: "Q", Name: "E"})
	isTurns(t, r, "E", atFirst+"0:00 0:00 X")
}

func TestTablesAreNewMemory(t *testing.T) {
	r := aRelease()
	want := impl.TableOf(r, "P")
	got := impl.TableOf(r, "P")
	clear(got.Table.Turns[:cap(got.Table.Turns)])
	haps := impl.HapsOf(r, "E", 0)
	clear(haps[:cap(haps)])
	if again := impl.TableOf(r, "R"); !slices.Equal(again.Table.Turns, want.Table.Turns) || len(want.Table.Turns) == 0 {
		t.Errorf("got %+v, want %+v", again, want)
	}
	if !sameRelease(r, aRelease()) {
		t.Errorf("the Release has become %+v", r)
	}
}
