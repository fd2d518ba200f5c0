package tests

import (
	"fmt"
	"slices"
	"strings"
	"testing"
	"time"

	"loop.example/g00364/impl"
)

// readRelease is the Release that lines tell.
func readRelease(t *testing.T, lines ...string) impl.Release {
	t.Helper()
	out := impl.ReleaseRead(strings.Join(lines, "\n") + "\n")
	if out.Code != impl.OK {
		t.Fatalf("%q: got the line %d and the code %d, want a Release", lines, out.Line, out.Code)
	}
	return out.Release
}

// instant takes a time as the library writes it.
func instant(t *testing.T, text string) int64 {
	t.Helper()
	at, err := time.Parse(time.DateTime, text)
	if err != nil {
		t.Fatal(err)
	}
	return at.Unix()
}

// orderedRules are what happens by the Rules of a name: a Rule for each time that it does, and its wall time.
func orderedRules(rules []impl.Rule, name string) ([]impl.Rule, []int64) {
	type happening struct {
		rule impl.Rule
		wall int64
	}
	all := []happening{}
	for _, rule := range rules {
		for year := int64(1960); year <= 2037; year++ {
			days := impl.DayOn(year, rule.Month, rule.On)
			if rule.Name == name && year >= rule.From && year <= rule.To && days != noDay {
				all = append(all, happening{rule, days*86400 + rule.At})
			}
		}
	}
	slices.SortStableFunc(all, func(a, b happening) int { return int(a.wall - b.wall) })
	ordered, walls := []impl.Rule{}, []int64{}
	for _, h := range all {
		ordered, walls = append(ordered, h.rule), append(walls, h.wall)
	}
	return ordered, walls
}

// madeHaps makes what HapsOf tells of a right Release by another way than the program, however many there are.
func madeHaps(rules []impl.Rule, name string, offset int64) []impl.Hap {
	haps := []impl.Hap{}
	ordered, walls := orderedRules(rules, name)
	for i, rule := range ordered {
		at := walls[i]
		if rule.Of == "s" || rule.Of == "w" {
			at -= offset
		}
		if rule.Of == "w" && i > 0 {
			at -= ordered[i-1].Save
		}
		haps = append(haps, impl.Hap{At: at, Save: rule.Save, Letter: rule.Letter})
	}
	return haps
}

func isHaps(t *testing.T, r impl.Release, name string, offset int64, want []impl.Hap) {
	t.Helper()
	if got := impl.HapsOf(r, name, offset); !slices.Equal(got, want) {
		t.Errorf("%.30q at %d of %+v:\ngot %+v,\nwant %+v", name, offset, r.Rules, got, want)
	}
}

// hapsTold writes what happens as times and letters, for those that are to be read.
func hapsTold(haps []impl.Hap) string {
	words := []string{}
	for _, hap := range haps {
		words = append(words, time.Unix(hap.At, 0).UTC().Format("2006-01-02 15:04")+" "+hap.Letter)
	}
	return strings.Join(words, ", ")
}

func isHapsTold(t *testing.T, r impl.Release, name string, offset int64, want string) {
	t.Helper()
	if got := hapsTold(impl.HapsOf(r, name, offset)); got != want {
		t.Errorf("%s at %d: got %s, want %s", name, offset, got, want)
	}
}

// Promise 5, by hand: b and e are less the Save of the one ahead, but those of other names are not ahead.
func TestWhatHappensByWallStandardAndUniversalTime(t *testing.T) {
	r := readRelease(t,
		"Rule A 2000 only - Jun 1 12:00 0 f",
		"Rule A 2000 only - Feb 1 12:00w 0:30 b",
		"Rule A 2000 only - Apr 1 12:00u 2:00 d",
		"Rule B 2000 only - Jan 15 12:00 1:15 x",
		"Rule A 2000 only - Jan 1 12:00 1:00 a",
		"Rule B 2000 only - Jun 1 12:00 1:45 y",
		"Rule A 2000 only - Mar 1 12:00s -1:00 c",
		"Rule A 2000 only - May 1 12:00 0 e",
	)
	isHapsTold(t, r, "A", 0, "2000-01-01 12:00 a, 2000-02-01 11:00 b, 2000-03-01 12:00 c, 2000-04-01 12:00 d, 2000-05-01 10:00 e, 2000-06-01 12:00 f")
	isHapsTold(t, r, "A", 3600, "2000-01-01 11:00 a, 2000-02-01 10:00 b, 2000-03-01 11:00 c, 2000-04-01 12:00 d, 2000-05-01 09:00 e, 2000-06-01 11:00 f")
	isHapsTold(t, r, "A", -3600, "2000-01-01 13:00 a, 2000-02-01 12:00 b, 2000-03-01 13:00 c, 2000-04-01 12:00 d, 2000-05-01 11:00 e, 2000-06-01 13:00 f")
	isHapsTold(t, r, "B", 0, "2000-01-15 12:00 x, 2000-06-01 10:45 y")
	isHaps(t, r, "A", 0, madeHaps(r.Rules, "A", 0))
}

// The order is that of wall times, also where instants are in another.
func TestInstantsThatDoNotRise(t *testing.T) {
	r := readRelease(t,
		"Rule A 2000 only - Mar 5 10:00 0:30 x",
		"Rule A 2000 only - Mar 5 9:00u 1:00 y",
		"Rule A 2000 only - Mar 5 10:30 0 z",
	)
	isHapsTold(t, r, "A", 43200, "2000-03-05 09:00 y, 2000-03-04 21:00 x, 2000-03-04 22:00 z")
	isHapsTold(t, r, "A", -43200, "2000-03-05 09:00 y, 2000-03-05 21:00 x, 2000-03-05 22:00 z")
}

// Four Rules have one wall time, 2000-03-05 00:00, which is a Sunday's; all their orders are asked.
func TestRulesOfOneWallTimeInTheirOrder(t *testing.T) {
	lines := []string{
		"Rule A 2000 only - Mar 5 0:00 1:00 a",
		"Rule A 2000 only - Mar Sun>=1 0:00u 2:00 b",
		"Rule A 2000 only - Mar 4 24:00s -0:30 c",
		"Rule A 2000 only - Mar Mon<=1 144:00 0:15 d",
	}
	wall := instant(t, "2000-03-05 00:00:00")
	for _, order := range orders(len(lines)) {
		picked := []string{"Rule A 1999 only - Dec 1 0:00 1:30 e"}
		for _, place := range order {
			picked = append(picked, lines[place])
		}
		r := readRelease(t, picked...)
		want := []impl.Hap{{At: instant(t, "1999-11-30 23:00:00"), Save: 5400, Letter: "e"}}
		for _, rule := range r.Rules[1:] {
			at := map[string]int64{"u": wall, "s": wall - 3600, "w": wall - 3600 - want[len(want)-1].Save}[rule.Of]
			want = append(want, impl.Hap{At: at, Save: rule.Save, Letter: rule.Letter})
		}
		isHaps(t, r, "A", 3600, want)
	}
}

// orders are all those of so many places.
func orders(many int) [][]int {
	if many == 0 {
		return [][]int{{}}
	}
	all := [][]int{}
	for _, order := range orders(many - 1) {
		for place := range many {
			all = append(all, slices.Insert(slices.Clone(order), place, many-1))
		}
	}
	return all
}

// yearsOf asks of a Rule, with the years given, in which years it happens first and last, and how often.
func yearsOf(t *testing.T, from int64, to int64, first int, last int, many int) {
	t.Helper()
	r := impl.Release{Rules: []impl.Rule{{Name: "A", From: from, To: to, Month: 7, On: "15", Of: "u"}}}
	haps := impl.HapsOf(r, "A", 0)
	if len(haps) != many {
		t.Fatalf("%d to %d: %d happen, want %d", from, to, len(haps), many)
	}
	if many == 0 {
		return
	}
	if got := time.Unix(haps[0].At, 0).UTC().Year(); got != first {
		t.Errorf("%d to %d: got the first year %d, want %d", from, to, got, first)
	}
	if got := time.Unix(haps[many-1].At, 0).UTC().Year(); got != last {
		t.Errorf("%d to %d: got the last year %d, want %d", from, to, got, last)
	}
}

func TestTheYearsInWhichRulesHappen(t *testing.T) {
	yearsOf(t, 1, 9999, 1960, 2037, 78)
	yearsOf(t, 1, 1959, 0, 0, 0)
	yearsOf(t, 1959, 1959, 0, 0, 0)
	yearsOf(t, 1959, 1960, 1960, 1960, 1)
	yearsOf(t, 1960, 1960, 1960, 1960, 1)
	yearsOf(t, 1960, 1961, 1960, 1961, 2)
	yearsOf(t, 1961, 2036, 1961, 2036, 76)
	yearsOf(t, 2036, 2037, 2036, 2037, 2)
	yearsOf(t, 2037, 2037, 2037, 2037, 1)
	yearsOf(t, 2037, 2038, 2037, 2037, 1)
	yearsOf(t, 2038, 2038, 0, 0, 0)
	yearsOf(t, 2038, 9999, 0, 0, 0)
	yearsOf(t, 9999, 9999, 0, 0, 0)
}

// A Rule's year is not always that of its day, nor that of its instant.
func TestWhatHappensOutsideItsYear(t *testing.T) {
	r := readRelease(t, "Rule A 1959 1960 - Jan Sun<=1 0:00 0 a", "Rule A 2037 2038 - Dec 31 168:00 0 b", "Rule B 1960 only - Jan 1 0:00 0 a", "Rule B 2037 only - Dec Mon>=31 24:00s 0 b")
	isHapsTold(t, r, "A", 0, "1959-12-27 00:00 a, 2038-01-07 00:00 b")
	isHapsTold(t, r, "B", 86400, "1959-12-31 00:00 a, 2038-01-04 00:00 b")
	isHapsTold(t, r, "B", -86400, "1960-01-02 00:00 a, 2038-01-06 00:00 b")
}

func TestDaysThatAreNotTold(t *testing.T) {
	days := map[string]int{
		"Feb 28": 78, "Feb 29": 20, "Feb 30": 0, "Feb 31": 0, "Apr 30": 78, "Apr 31": 0, "Jan 31": 78,
		"Feb Sun<=29": 20, "Feb Sun>=29": 20, "Feb Sun>=30": 0, "Jun Sun<=31": 0, "Jun Sun>=30": 78, "Feb lastSun": 78,
	}
	for day, many := range days {
		r := readRelease(t, "Rule A 1 max - "+day+" 0:00 1:00 a")
		if got := len(impl.HapsOf(r, "A", 0)); got != many {
			t.Errorf("%s: %d happen, want %d", day, got, many)
		}
		isHaps(t, r, "A", 1800, madeHaps(r.Rules, "A", 1800))
	}
	// The one ahead is the last that happened, not the last that might have.
	r := readRelease(t, "Rule A 2001 only - Feb 28 0:00 1:00 a", "Rule A 2001 only - Feb 29 0:00 2:00 b", "Rule A 2001 only - Mar 1 0:00 0 c")
	isHapsTold(t, r, "A", 0, "2001-02-28 00:00 a, 2001-02-28 23:00 c")
}

// manyRules are Rules by which so many happen: each hap's Save is not 0, and its Letter not that of the one ahead.
func manyRules(many int64) []impl.Rule {
	const letters = "ABCDEFGHIJKLMNOPQRSTUVWXYZabcdefghijklmn"
	rules := []impl.Rule{}
	for many > 0 {
		years := min(many, 78)
		place := len(rules)
		rules = append(rules, impl.Rule{Name: "A", From: 1960, To: 1959 + years, Month: int64(place%12) + 1, On: fmt.Sprint(place/12 + 1), Of: "u", Save: 3600, Letter: letters[place : place+1]})
		many -= years
	}
	return rules
}

func TestHowManyMayHappen(t *testing.T) {
	for _, many := range []int64{1, 2, 77, 78, 79, 1999, 2000} {
		r := impl.Release{Rules: manyRules(many)}
		if got := impl.HapsOf(r, "A", 0); int64(len(got)) != many {
			t.Errorf("%d happen, want %d", len(got), many)
		}
		isHaps(t, r, "A", 3600, madeHaps(r.Rules, "A", 3600))
	}
	for _, many := range []int64{2001, 2002, 2028, 40 * 78} {
		r := impl.Release{Rules: manyRules(many)}
		isRight(t, "one of many Rules", r, true)
		isHaps(t, r, "A", 0, nil)
	}
	// Those of other names, and of other years, do not count.
	r := impl.Release{Rules: append(manyRules(2000), impl.Rule{Name: "B", From: 1, To: 9999, Month: 1, On: "1", Of: "w"}, impl.Rule{Name: "A", From: 2038, To: 9999, Month: 1, On: "1", Of: "w"})}
	isHaps(t, r, "A", 0, madeHaps(r.Rules, "A", 0))
}

func TestHapsOfWrongThings(t *testing.T) {
	r := aRelease()
	want := madeHaps(r.Rules, "E", 0)
	if len(want) != 11+58 {
		t.Fatalf("%d happen", len(want))
	}
	isHaps(t, r, "E", 0, want)
	for _, name := range []string{"", "e", "EE", "E ", "1", "-", "P", "Q", "R", strings.Repeat("E", impl.MaxBytes), strings.Repeat("E", impl.MaxBytes+1)} {
		isHaps(t, r, name, 0, nil)
	}
	isHaps(t, impl.Release{}, "E", 0, nil)
	isHaps(t, impl.Release{}, "", 0, nil)
	for _, offset := range []int64{-86400, -86399, 0, 1, 86399, 86400} {
		isHaps(t, r, "E", offset, madeHaps(r.Rules, "E", offset))
	}
	for _, offset := range append([]int64{-86401, 86401}, extremes...) {
		isHaps(t, r, "E", offset, nil)
	}
	wrong := map[string]impl.Release{
		"a Rule's": withRule(func(r *impl.Rule) { r.Save = 7201 }),
		"an Era's": withEra(func(e *impl.Era) { e.Rules = "None" }),
		"a Link's": {Rules: r.Rules, Links: r.Links},
	}
	for what, wrong := range wrong {
		isRight(t, what, wrong, false)
		isHaps(t, wrong, "E", 0, nil)
	}
}

// pick is one of some things.
func pick[T any](c chance, things ...T) T {
	return things[c.Intn(len(things))]
}

// clockRule is of the years that tables have, and near other Rules' times more often than not.
func (c chance) clockRule() impl.Rule {
	from := 1955 + c.Int63n(88)
	return impl.Rule{
		Name:   pick(c, "A", "A", "B", "C"),
		From:   from,
		To:     pick(c, from, from+c.Int63n(10), c.from(from, 9999)),
		Month:  pick(c, 1, 3, 3, 10, 12, c.from(1, 12)),
		On:     pick(c, "1", "31", "lastSun", "Sun>=1", c.on()),
		At:     pick(c, 0, 3600, 7200, 10800, 86400, c.from(0, 604800)),
		Of:     c.of(),
		Save:   pick(c, 0, 0, 3600, 3600, 7200, -7200, c.from(-7200, 7200)),
		Letter: pick(c, "", "S", "D", c.letter()),
	}
}

func (c chance) clockRules(most int64) []impl.Rule {
	rules := []impl.Rule{}
	for range c.from(1, most) {
		rules = append(rules, c.clockRule())
	}
	return rules
}

// Promise 5.
func TestWhatHappensAnHourEarlier(t *testing.T) {
	c := newChance(51)
	for round := range 3000 {
		r := impl.Release{Rules: c.clockRules(12)}
		if round%50 == 0 {
			r.Rules = c.clockRules(impl.MaxRules)
		}
		name := pick(c, "A", "B", "C")
		offset := pick(c, 0, 3600, c.from(-86400, 82800))
		want := madeHaps(r.Rules, name, offset)
		if len(want) > 2000 {
			want = nil
		}
		isHaps(t, r, name, offset, want)
		ordered, _ := orderedRules(r.Rules, name)
		for i := range want {
			if ordered[i].Of != "u" {
				want[i].At -= 3600
			}
		}
		isHaps(t, r, name, offset+3600, want)
		if t.Failed() {
			return
		}
	}
}
