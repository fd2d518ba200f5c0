package tests

import (
	"slices"
	"testing"

	"loop.example/g00364/impl"
)

// slowSpans finds where two clocks begin to be unlike, and where they end to be so, by asking both at each Turn and one
// second ahead of it.
func slowSpans(a impl.Table, b impl.Table) []impl.Span {
	unlike := func(instant int64) bool {
		return instant >= impl.MinTime && instant <= impl.MaxTime && slowOffset(a, instant) != slowOffset(b, instant)
	}
	firsts, lasts := []int64{}, []int64{}
	for _, turn := range slices.Concat(a.Turns, b.Turns) {
		if unlike(turn.At) && !unlike(turn.At-1) {
			firsts = append(firsts, turn.At)
		}
		if !unlike(turn.At) && unlike(turn.At-1) {
			lasts = append(lasts, turn.At-1)
		}
	}
	if unlike(impl.MaxTime) {
		lasts = append(lasts, impl.MaxTime)
	}
	slices.Sort(firsts)
	slices.Sort(lasts)
	spans := []impl.Span{}
	lasts = slices.Compact(lasts)
	for i, first := range slices.Compact(firsts) {
		spans = append(spans, span(first, lasts[i]))
	}
	return spans
}

// otherClock is a Table that differs from one in some of its Turns, or in none.
func (c chance) otherClock(table impl.Table, near int64, offset func() int64) impl.Table {
	other := impl.Table{Turns: slices.Clone(table.Turns)}
	for range c.from(0, 4) {
		place := int(c.from(0, int64(len(other.Turns)-1)))
		switch turn := &other.Turns[place]; {
		case c.from(0, 3) == 0:
			turn.Offset = offset()
		case c.from(0, 3) == 0:
			turn.Save, turn.Abbr = c.from(-7200, 7200), "other"
		case place > 0 && c.from(0, 2) == 0:
			other.Turns = slices.Delete(other.Turns, place, place+1)
		case place > 0 && c.from(0, 1) == 0:
			turn.At += c.from(-near, near)
		default:
			other.Turns = append(other.Turns, impl.Turn{At: other.Turns[len(other.Turns)-1].At + c.from(1, near), Offset: offset()})
		}
	}
	return tidyClock(other)
}

// tidyClock brings Turns into their order, and leaves those out that may not stand there.
func tidyClock(table impl.Table) impl.Table {
	turns := table.Turns[1:]
	slices.SortStableFunc(turns, func(a impl.Turn, b impl.Turn) int { return int(a.At - b.At) })
	turns = slices.DeleteFunc(turns, func(turn impl.Turn) bool { return turn.At <= impl.MinTime || turn.At > impl.MaxTime })
	turns = slices.CompactFunc(turns, func(a impl.Turn, b impl.Turn) bool { return a.At == b.At })
	return impl.Table{Turns: append(table.Turns[:1], turns...)}
}

// diffKinds counts what Spans there were.
type diffKinds map[string]int

func (k diffKinds) count(spans []impl.Span) {
	k[[]string{"of no Span", "of one Span", "of more Spans"}[min(2, len(spans))]]++
	for _, s := range spans {
		if s.From == impl.MinTime {
			k["from MinTime"]++
		}
		if s.To == impl.MaxTime {
			k["to MaxTime"]++
		}
		if s.From == s.To {
			k["of one second"]++
		}
	}
}

func (k diffKinds) hasAll(t *testing.T, least int, kinds ...string) {
	t.Helper()
	for _, kind := range kinds {
		if k[kind] < least {
			t.Errorf("too few are %s: %v", kind, k)
		}
	}
}

// isDiff holds the Spans of two right Tables against the slow ones.
func isDiff(t *testing.T, a impl.Table, b impl.Table, kinds diffKinds) []impl.Span {
	t.Helper()
	want := slowSpans(a, b)
	isSpans(t, a, b, want...)
	kinds.count(want)
	return want
}

// Promise 9: a Span has an instant just if TurnAt tells unlike Offsets of both there.
func isUnlikeJustInSpans(t *testing.T, a impl.Table, b impl.Table, spans []impl.Span, instant int64) {
	t.Helper()
	within := slices.ContainsFunc(spans, func(s impl.Span) bool { return instant >= s.From && instant <= s.To })
	unlike := impl.TurnAt(a, instant).Offset != impl.TurnAt(b, instant).Offset
	if within != unlike {
		t.Errorf("at %d: in a Span? %v, unlike? %v, of %v, of\n%sand\n%s", instant, within, unlike, spans, clockText(a), clockText(b))
	}
	if got := impl.Touched(spans, instant, instant); got != within {
		t.Errorf("at %d: touched? got %v, want %v, of %v", instant, got, within, spans)
	}
}

// isAsLongAsMayBe asks that no two Spans touch, and that they rise.
func isAsLongAsMayBe(t *testing.T, spans []impl.Span) {
	t.Helper()
	for i, s := range spans {
		if s.From > s.To || i > 0 && spans[i-1].To+1 >= s.From {
			t.Errorf("the Span %d of %v", i, spans)
		}
	}
}

// Promise 9, second by second.
func TestDiffSecondBySecond(t *testing.T) {
	c := newChance(92)
	kinds := diffKinds{}
	for range 8000 {
		base := pick(c, int64(0), impl.MinTime, impl.MinTime+3, impl.MaxTime-20, impl.MaxTime-40, -1000000)
		a := c.smallClock(base)
		b := c.otherClock(a, 9, func() int64 { return c.from(-2, 2) })
		spans := impl.Diff(a, b)
		isAsLongAsMayBe(t, spans)
		for instant := max(impl.MinTime, base-20); instant <= min(impl.MaxTime, base+100); instant++ {
			isUnlikeJustInSpans(t, a, b, spans, instant)
		}
		isDiff(t, a, b, kinds)
		if t.Failed() {
			return
		}
	}
	kinds.hasAll(t, 200, "of no Span", "of one Span", "of more Spans", "from MinTime", "to MaxTime", "of one second")
}

// nearSpans are instants at both ends of each Span, and one second to both sides of these.
func nearSpans(spans []impl.Span) []int64 {
	instants := []int64{}
	for _, s := range spans {
		instants = append(instants, s.From-1, s.From, s.From+1, s.To-1, s.To, s.To+1)
	}
	return slices.DeleteFunc(instants, func(n int64) bool { return n < impl.MinTime || n > impl.MaxTime })
}

// isChangedAsResolved holds Changed against the slow way to resolve; it tells whether some choice made it true.
func isChangedAsResolved(t *testing.T, a impl.Table, b impl.Table, wall int64) bool {
	t.Helper()
	some := false
	shownByA, shownByB := slowShown(a, wall), slowShown(b, wall)
	for gap := range int64(3) {
		for fold := range int64(3) {
			want := slowResolve(a, wall, shownByA, gap, fold) != slowResolve(b, wall, shownByB, gap, fold)
			some = some || want
			if got := impl.Changed(a, b, wall, gap, fold); got != want {
				t.Errorf("%d with the gap %d and the fold %d: got %v, want %v; of\n%sand\n%s", wall, gap, fold, got, want, clockText(a), clockText(b))
			}
		}
	}
	return some
}

// isFoundAlikeFarFrom holds a wall time to promise 9: no Offset is more than 100000 up or down, so that what lies
// farther from each Span is shown, and leapt over, by both clocks at the same instants.
func isFoundAlikeFarFrom(t *testing.T, a impl.Table, b impl.Table, spans []impl.Span, wall int64, kinds map[string]int) {
	t.Helper()
	changed := isChangedAsResolved(t, a, b, wall)
	if impl.Touched(spans, wall-100000, wall+100000) {
		kinds[map[bool]string{true: "near, changed", false: "near, not changed"}[changed]]++
		return
	}
	kinds["far"]++
	if changed || !slices.Equal(impl.InstantsOf(a, wall), impl.InstantsOf(b, wall)) {
		t.Errorf("%d lies far from %v, but is not found alike; of\n%sand\n%s", wall, spans, clockText(a), clockText(b))
	}
}

// farAndNear are wall times at, and one second to both sides of, as far from each Span as an Offset goes.
func farAndNear(c chance, spans []impl.Span) []int64 {
	walls := []int64{}
	for _, n := range nearSpans(spans) {
		walls = append(walls, n, n-100000, n+100000, n+c.from(-100000, 100000), n+c.from(-300000, 300000), n+c.from(-3600, 3600))
	}
	return slices.DeleteFunc(walls, func(n int64) bool { return n < impl.MinTime || n > impl.MaxTime })
}

// Promise 9, of Tables of all right Offsets.
func TestDiffOfWideOffsets(t *testing.T) {
	c := newChance(93)
	kinds, walls := diffKinds{}, diffKinds{}
	for range 800 {
		a := c.wideClock()
		b := c.otherClock(a, 90000, func() int64 { return pick(c, -100000, 100000, c.from(-100000, 100000)) })
		spans := isDiff(t, a, b, kinds)
		for _, instant := range nearSpans(spans) {
			isUnlikeJustInSpans(t, a, b, spans, instant)
		}
		for _, wall := range append(farAndNear(c, spans), nearTurns(c, b)...) {
			isFoundAlikeFarFrom(t, a, b, spans, wall, walls)
		}
		if t.Failed() {
			return
		}
	}
	kinds.hasAll(t, 50, "of no Span", "of one Span", "of more Spans", "from MinTime", "to MaxTime")
	walls.hasAll(t, 1000, "far", "near, changed", "near, not changed")
}

// Promise 9, of the tables of two Releases.
func TestDiffOfReleases(t *testing.T) {
	c := newChance(94)
	kinds, walls := diffKinds{}, diffKinds{}
	for range 400 {
		rules := c.clockRules(5)
		r := c.clockRelease(rules)
		newer := impl.Release{Rules: slices.Clone(r.Rules), Zones: r.Zones, Links: r.Links}
		for i := range rules {
			newer.Rules[i].At = pick(c, newer.Rules[i].At, c.from(0, 86400))
		}
		a, b := impl.TableOf(r, "Z0"), impl.TableOf(newer, "Z0")
		if a.Code != impl.OK || b.Code != impl.OK || len(a.Table.Turns)+len(b.Table.Turns) > 200 {
			continue
		}
		spans := isDiff(t, a.Table, b.Table, kinds)
		for _, instant := range nearSpans(spans) {
			isUnlikeJustInSpans(t, a.Table, b.Table, spans, instant)
		}
		for _, wall := range farAndNear(c, spans) {
			isFoundAlikeFarFrom(t, a.Table, b.Table, spans, wall, walls)
		}
		if t.Failed() {
			return
		}
	}
	kinds.hasAll(t, 20, "of no Span", "of one Span", "of more Spans")
	walls.hasAll(t, 500, "far", "near, changed", "near, not changed")
}

// Promise 9, of Tables with as many Turns as there may be, at the same and at other instants.
func TestDiffOfFullTables(t *testing.T) {
	c := newChance(95)
	kinds := diffKinds{}
	full := func() impl.Table {
		table := manyTurns(impl.MaxTurns)
		for i := range table.Turns {
			table.Turns[i].Offset = c.from(0, 1)
			if i > 0 {
				table.Turns[i].At += c.from(0, 9)
			}
		}
		return table
	}
	for range 20 {
		a, b := full(), full()
		spans := isDiff(t, a, b, kinds)
		for instant := int64(0); instant < 6100; instant += c.from(1, 40) {
			within := slices.ContainsFunc(spans, func(s impl.Span) bool { return instant >= s.From && instant <= s.To })
			if within != (impl.TurnAt(a, instant).Offset != impl.TurnAt(b, instant).Offset) {
				t.Fatalf("at %d of %v", instant, spans)
			}
		}
	}
	kinds.hasAll(t, 20, "of more Spans")
}
