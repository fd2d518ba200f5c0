package tests

import (
	"fmt"
	"slices"
	"testing"

	"loop.example/g00364/impl"
)

// madeEra is an Era, what happens by its Rules, and where it begins.
type madeEra struct {
	impl.Era
	haps  []impl.Hap
	begin int64
}

// shown is the clock in an Era at an instant, whether that is in the Era or not.
func (e madeEra) shown(at int64) impl.Turn {
	save, letter := e.Save, ""
	if e.Rules != "" {
		save = 0
		for _, hap := range slices.Backward(e.haps) {
			if hap.Save == 0 {
				letter = hap.Letter
			}
		}
		for _, hap := range e.haps {
			if hap.At <= at {
				save, letter = hap.Save, hap.Letter
			}
		}
	}
	return impl.Turn{Offset: e.Offset + save, Save: save, Abbr: impl.AbbrOf(e.Format, letter, save)}
}

// end is where the Era ends, if it is not the last one.
func (e madeEra) end() int64 {
	end := e.Until
	if e.Of == "s" || e.Of == "w" {
		end -= e.Offset
	}
	if e.Of == "w" {
		end -= e.shown(e.Until - e.Offset - 1).Save
	}
	if end > impl.MaxTime {
		end = impl.MaxTime
	}
	if end < e.begin {
		end = e.begin
	}
	return end
}

// madeEras are those of a Zone; they tell false, if too many happen in one.
func madeEras(r impl.Release, zone impl.Zone) ([]madeEra, bool) {
	eras := []madeEra{}
	begin := int64(impl.MinTime)
	for _, era := range zone.Eras {
		made := madeEra{era, nil, begin}
		if era.Rules != "" {
			made.haps = madeHaps(r.Rules, era.Rules, era.Offset)
		}
		if len(made.haps) > 2000 {
			return nil, false
		}
		eras = append(eras, made)
		begin = made.end()
	}
	return eras, true
}

// clockAt is what the clock of the last Era shows that begins no later.
func clockAt(eras []madeEra, at int64) impl.Turn {
	now := eras[0]
	for _, era := range eras {
		if era.begin <= at {
			now = era
		}
	}
	return now.shown(at)
}

// madeTable makes what TableOf tells of a Zone of a right Release by another way than the program: the clock is
// asked wherever it might change, be it in the Era or not, and is told where it does.
func madeTable(r impl.Release, zone impl.Zone) impl.TableOut {
	eras, fit := madeEras(r, zone)
	if !fit {
		return impl.TableOut{Code: impl.ErrFull}
	}
	times := []int64{}
	for _, era := range eras {
		times = append(times, era.begin)
		for _, hap := range era.haps {
			times = append(times, hap.At)
		}
	}
	slices.Sort(times)
	turns := []impl.Turn{}
	ahead := impl.Turn{Offset: -1000000}
	for _, at := range times {
		turn := clockAt(eras, at)
		if turn != ahead {
			ahead = turn
			turn.At = at
			turns = append(turns, turn)
		}
	}
	if len(turns) > impl.MaxTurns {
		return impl.TableOut{Code: impl.ErrFull}
	}
	return impl.TableOut{Table: impl.Table{Turns: turns}}
}

func (c chance) clockEra(rules []impl.Rule) impl.Era {
	era := impl.Era{Offset: pick(c, 0, 3600, -3600, 36000, c.from(-86400, 86400)), Format: pick(c, "X", "X%s", "A/B", "A%s/%sB", c.format()), Of: c.of()}
	switch c.Intn(4) {
	case 0:
		era.Save = pick(c, 0, 3600, c.from(-7200, 7200))
	default:
		era.Rules = pick(c, rules...).Name
	}
	return era
}

// untils are rising, mostly in the years that rules have, or near each other, or near both ends of time.
func (c chance) untils(many int64) []int64 {
	untils := []int64{}
	for range many {
		until := pick(c, wallTime(1955, 1, 1, 0)+c.Int63n(85*365*86400), wallTime(1955+c.Intn(85), pick(c, 3, 10), 1, 3600*c.Int63n(30)))
		if len(untils) > 0 && c.Intn(3) == 0 {
			until = pick(c, untils...) + c.from(-90000, 90000)
		}
		if c.Intn(10) == 0 {
			until = pick(c, impl.MinTime+c.from(0, 90000), impl.MaxTime-1-c.from(0, 90000))
		}
		untils = append(untils, max(impl.MinTime, min(impl.MaxTime-1, until)))
	}
	slices.Sort(untils)
	return slices.Compact(untils)
}

func (c chance) clockZone(name string, rules []impl.Rule) impl.Zone {
	zone := impl.Zone{Name: name}
	for _, until := range c.untils(c.from(1, impl.MaxEras) - 1) {
		era := c.clockEra(rules)
		era.Until = until
		zone.Eras = append(zone.Eras, era)
	}
	last := c.clockEra(rules)
	last.Until, last.Of = impl.MaxTime, "w"
	zone.Eras = append(zone.Eras, last)
	return zone
}

// busyRules are as many as there may be, most of one name, and of most years, so that some tables are full.
func (c chance) busyRules() []impl.Rule {
	rules := c.clockRules(impl.MaxRules)
	for i := range rules {
		rules[i].Name = pick(c, "A", "A", "A", "A", "B")
		rules[i].From, rules[i].To = c.from(1, 1965), c.from(2010, 9999)
	}
	return rules
}

func (c chance) clockRelease(rules []impl.Rule) impl.Release {
	r := impl.Release{Rules: rules}
	for i := range c.from(1, 3) {
		zone := c.clockZone(fmt.Sprintf("Z%d", i), r.Rules)
		r.Zones = append(r.Zones, zone)
		r.Links = append(r.Links, impl.Link{To: zone.Name, Name: fmt.Sprintf("L%d", i)})
	}
	return r
}

// isMade holds a Zone's table, and that of its Link, against the made one, and asks for what promise 6 says.
func isMade(t *testing.T, r impl.Release, zone impl.Zone, link string) int64 {
	t.Helper()
	want := madeTable(r, zone)
	for _, name := range []string{zone.Name, link} {
		got := impl.TableOf(r, name)
		if got.Code != want.Code || !slices.Equal(got.Table.Turns, want.Table.Turns) {
			t.Fatalf("%s of %s\ngot %+v,\nwant %+v", name, madeText(r), got, want)
		}
		if right := impl.TableRight(got.Table); right != (got.Code == impl.OK) {
			t.Fatalf("%s of %s\nis %+v right? got %v", name, madeText(r), got, right)
		}
	}
	return want.Code
}

// Promise 6.
func TestTablesOfRightReleases(t *testing.T) {
	c := newChance(61)
	codes := map[int64]int{}
	for round := range 1500 {
		rules := c.clockRules(6)
		if round%15 == 0 {
			rules = c.busyRules()
		}
		r := c.clockRelease(rules)
		isRight(t, "a made one", r, true)
		for i, zone := range r.Zones {
			codes[isMade(t, r, zone, r.Links[i].Name)]++
		}
	}
	if codes[impl.OK] < 1000 || codes[impl.ErrFull] < 10 {
		t.Errorf("codes of too few kinds: %v", codes)
	}
}

// Promise 6, of Releases whose Rules and Eras lie anywhere.
func TestTablesOfReleasesOfAllYears(t *testing.T) {
	c := newChance(62)
	for range 600 {
		r := c.release(8, 4, 8, 0)
		for i, zone := range r.Zones {
			link := fmt.Sprintf("L%d", i)
			r.Links = append(r.Links, impl.Link{To: zone.Name, Name: link})
			isMade(t, r, zone, link)
		}
	}
}

// The clock is asked at each Turn, one second ahead of it, and anywhere.
func TestTurnsTellWhatTheErasTell(t *testing.T) {
	c := newChance(63)
	for range 200 {
		r := c.clockRelease(c.clockRules(5))
		table := impl.TableOf(r, "Z0").Table
		eras, fit := madeEras(r, r.Zones[0])
		if len(table.Turns) == 0 || !fit {
			continue
		}
		times := []int64{impl.MinTime, impl.MaxTime, c.from(impl.MinTime, impl.MaxTime)}
		for _, turn := range table.Turns {
			times = append(times, turn.At, max(impl.MinTime, turn.At-1), min(impl.MaxTime, turn.At+c.from(0, 10000000)))
		}
		for _, at := range times {
			got, want := impl.TurnAt(table, at), clockAt(eras, at)
			want.At = got.At
			if got != want {
				t.Fatalf("at %d of %s\ngot %+v, want %+v", at, madeText(r), got, want)
			}
		}
	}
}
