package tests

import (
	"slices"
	"testing"

	"loop.example/g00364/impl"
)

// isSpans asks with the two Tables in either order.
func isSpans(t *testing.T, a impl.Table, b impl.Table, want ...impl.Span) {
	t.Helper()
	if got := impl.Diff(a, b); !slices.Equal(got, want) {
		t.Errorf("got %v, want %v; of\n%sand\n%s", got, want, clockText(a), clockText(b))
	}
	if got := impl.Diff(b, a); !slices.Equal(got, want) {
		t.Errorf("the other way round: got %v, want %v; of\n%sand\n%s", got, want, clockText(a), clockText(b))
	}
}

func span(from int64, to int64) impl.Span {
	return impl.Span{From: from, To: to}
}

// Promise 9, by hand.
func TestTablesThatAreAlike(t *testing.T) {
	for _, table := range []impl.Table{aTable(), clockOf(0), clockOf(100000), clockOf(-100000, at{impl.MinTime + 1, 5}, at{impl.MaxTime, 6}), manyTurns(2), manyTurns(600)} {
		isSpans(t, table, table)
		isSpans(t, table, impl.Table{Turns: slices.Clone(table.Turns)})
	}
}

func TestTablesThatDifferInOneTurn(t *testing.T) {
	ends := []int64{impl.MinTime, -1000, 1000, 1001, impl.MaxTime + 1}
	for place := range aTable().Turns {
		other := withTurn(place, func(turn *impl.Turn) { turn.Offset++ })
		isSpans(t, aTable(), other, span(ends[place], ends[place+1]-1))
	}
	all := aTable()
	for i := range all.Turns {
		all.Turns[i].Offset--
	}
	isSpans(t, aTable(), all, span(impl.MinTime, impl.MaxTime))
	isSpans(t, clockOf(100000), clockOf(-100000), span(impl.MinTime, impl.MaxTime))
	isSpans(t, clockOf(0), clockOf(1), span(impl.MinTime, impl.MaxTime))
}

// The first of two lists is gone through to its end ahead of the other, and the other way round.
func TestTablesOfWhichOneHasMoreTurns(t *testing.T) {
	table := clockOf(0, at{10, 5}, at{20, 0}, at{30, 7}, at{40, 0})
	isSpans(t, clockOf(0), table, span(10, 19), span(30, 39))
	isSpans(t, clockOf(5), table, span(impl.MinTime, 9), span(20, impl.MaxTime))
	isSpans(t, clockOf(7), table, span(impl.MinTime, 29), span(40, impl.MaxTime))
	isSpans(t, clockOf(9), table, span(impl.MinTime, impl.MaxTime))
	isSpans(t, clockOf(0, at{10, 5}), table, span(20, impl.MaxTime))
	isSpans(t, clockOf(0, at{10, 5}, at{20, 0}), table, span(30, 39))
	isSpans(t, clockOf(0, at{30, 7}, at{40, 0}), table, span(10, 19))
	isSpans(t, clockOf(0, at{10, 5}, at{40, 0}), table, span(20, 39))
	isSpans(t, clockOf(0, at{50, 1}), table, span(10, 19), span(30, 39), span(50, impl.MaxTime))
}

// One clock turns later, or earlier, than the other.
func TestTurnsAtOtherInstants(t *testing.T) {
	isSpans(t, clockOf(0, at{100, 5}), clockOf(0, at{101, 5}), span(100, 100))
	isSpans(t, clockOf(0, at{100, 5}), clockOf(0, at{160, 5}), span(100, 159))
	isSpans(t, clockOf(0, at{100, 5}, at{200, 0}), clockOf(0, at{150, 5}, at{250, 0}), span(100, 149), span(200, 249))
	// The one has turned back ahead of the other's turn.
	isSpans(t, clockOf(0, at{100, 5}, at{200, 0}), clockOf(0, at{300, 5}, at{400, 0}), span(100, 199), span(300, 399))
	isSpans(t, clockOf(0, at{100, 5}, at{200, 0}), clockOf(0, at{200, 5}, at{300, 0}), span(100, 299))
	isSpans(t, clockOf(0, at{100, 5}, at{200, 0}), clockOf(0, at{201, 5}, at{300, 0}), span(100, 199), span(201, 299))
}

// Two that touch are one, whichever of the Offsets turn there.
func TestSpansAsLongAsMayBe(t *testing.T) {
	isSpans(t, clockOf(0), clockOf(0, at{100, 1}, at{200, 2}, at{300, 3}, at{400, 0}), span(100, 399))
	isSpans(t, clockOf(0, at{150, 4}, at{250, 5}), clockOf(0, at{100, 1}, at{200, 2}, at{300, 3}, at{400, 5}), span(100, 399))
	// Both turn at one instant, and are unlike ahead of it and behind it.
	isSpans(t, clockOf(0, at{100, 1}), clockOf(5, at{100, 6}, at{200, 1}), span(impl.MinTime, 199))
	isSpans(t, clockOf(0, at{100, 1}), clockOf(1, at{100, 0}), span(impl.MinTime, impl.MaxTime))
	// A Turn that changes nothing cuts nothing.
	isSpans(t, clockOf(0, at{150, 0}), clockOf(0, at{100, 1}, at{140, 1}, at{200, 0}), span(100, 199))
	// They are alike for one second between.
	isSpans(t, clockOf(0), clockOf(0, at{100, 1}, at{200, 0}, at{201, 2}, at{300, 0}), span(100, 199), span(201, 299))
	isSpans(t, clockOf(0, at{200, 1}, at{201, 0}), clockOf(1, at{300, 0}), span(impl.MinTime, 199), span(201, 299))
}

func TestTablesThatDifferInSaveAndAbbrAlone(t *testing.T) {
	for place := range aTable().Turns {
		isSpans(t, aTable(), withTurn(place, func(turn *impl.Turn) { turn.Save = -7200 }))
		isSpans(t, aTable(), withTurn(place, func(turn *impl.Turn) { turn.Abbr = "other" }))
	}
	// One clock has Turns that the other has not, and shows the same.
	more := impl.Table{Turns: []impl.Turn{{At: impl.MinTime, Offset: 5}, {At: 10, Offset: 5, Save: 5}, {At: 20, Offset: 5, Abbr: "X"}, {At: impl.MaxTime, Offset: 5, Save: 1}}}
	isSpans(t, clockOf(5), more)
	isSpans(t, clockOf(5, at{15, 5}, at{20, 5}, at{25, 5}), more)
	isSpans(t, clockOf(5, at{15, 6}, at{18, 5}), more, span(15, 17))
}

func TestTurnsOfOneBetweenThoseOfTheOther(t *testing.T) {
	a := clockOf(0, at{10, 1}, at{30, 2}, at{50, 3})
	b := clockOf(0, at{20, 1}, at{40, 2}, at{60, 3})
	isSpans(t, a, b, span(10, 19), span(30, 39), span(50, 59))
	b = clockOf(1, at{20, 2}, at{40, 3}, at{60, 4})
	isSpans(t, a, b, span(impl.MinTime, 9), span(20, 29), span(40, 49), span(60, impl.MaxTime))
	b = clockOf(0, at{5, 9}, at{15, 1}, at{35, 9}, at{50, 3}, at{55, 9})
	isSpans(t, a, b, span(5, 14), span(30, 49), span(55, impl.MaxTime))
}

func TestSpansAtBothEndsOfTime(t *testing.T) {
	isSpans(t, clockOf(0, at{impl.MinTime + 1, 5}), clockOf(5), span(impl.MinTime, impl.MinTime))
	isSpans(t, clockOf(0, at{impl.MinTime + 1, 5}), clockOf(0), span(impl.MinTime+1, impl.MaxTime))
	isSpans(t, clockOf(0, at{impl.MinTime + 1, 5}), clockOf(0, at{impl.MinTime + 2, 5}), span(impl.MinTime+1, impl.MinTime+1))
	isSpans(t, clockOf(0, at{impl.MaxTime, 5}), clockOf(0), span(impl.MaxTime, impl.MaxTime))
	isSpans(t, clockOf(0, at{impl.MaxTime, 5}), clockOf(5), span(impl.MinTime, impl.MaxTime-1))
	isSpans(t, clockOf(0, at{impl.MaxTime, 5}), clockOf(0, at{impl.MaxTime, 6}), span(impl.MaxTime, impl.MaxTime))
	isSpans(t, clockOf(0, at{impl.MaxTime - 1, 5}), clockOf(0, at{impl.MaxTime, 5}), span(impl.MaxTime-1, impl.MaxTime-1))
	isSpans(t, clockOf(1, at{impl.MinTime + 1, 0}, at{impl.MaxTime, 1}), clockOf(0), span(impl.MinTime, impl.MinTime), span(impl.MaxTime, impl.MaxTime))
}

func TestDiffOfTablesThatAreNotRight(t *testing.T) {
	for i, wrong := range wrongTables() {
		for _, other := range append([]impl.Table{clockOf(7), aTable(), manyTurns(600), wrong}, wrongTables()...) {
			isSpans(t, wrong, other)
		}
		if impl.TableRight(wrong) {
			t.Errorf("the wrong table %d is right", i)
		}
	}
}

func TestDiffOfManyTurns(t *testing.T) {
	a := manyTurns(600)
	isSpans(t, a, manyTurns(599), span(5990, impl.MaxTime))
	all, some := manyTurns(600), manyTurns(600)
	want := []impl.Span{span(impl.MinTime, 9)}
	for i := range a.Turns {
		all.Turns[i].Offset++
		if i%2 == 0 {
			some.Turns[i].Offset++
		}
		if i%2 == 0 && i > 0 {
			want = append(want, span(int64(i)*10, int64(i)*10+9))
		}
	}
	isSpans(t, a, all, span(impl.MinTime, impl.MaxTime))
	isSpans(t, a, some, want...)
}

// Both have 600 Turns, no two at one instant. More Spans may be told than there may be items in a list that is handed in.
func TestDiffOfMoreThan400Spans(t *testing.T) {
	later, ahead := manyTurns(600), manyTurns(600)
	wantLater, wantAhead := []impl.Span{}, []impl.Span{span(impl.MinTime, 9)}
	ahead.Turns[0].Offset = 1
	for i := int64(1); i < 600; i++ {
		later.Turns[i].At = i*10 + 5
		wantLater = append(wantLater, span(i*10, i*10+4))
		ahead.Turns[i] = impl.Turn{At: i*10 + 5, Offset: i + 1}
		wantAhead = append(wantAhead, span(i*10+5, i*10+9))
	}
	wantAhead[599].To = impl.MaxTime
	isSpans(t, manyTurns(600), later, wantLater...)
	isSpans(t, manyTurns(600), ahead, wantAhead...)
	isTouched(t, impl.Diff(manyTurns(600), ahead), impl.MinTime, impl.MaxTime, false)
	isTouched(t, impl.Diff(manyTurns(600), ahead)[:400], impl.MinTime, impl.MaxTime, true)
}

func TestDiffByRules(t *testing.T) {
	spring, zone := "Rule E 1980 max - Mar lastSun 1:00u 1:00 S", "Zone P 1:00 E CE%sT"
	old := readRelease(t, spring, "Rule E 1980 max - Oct lastSun 1:00u 0 -", zone)
	newer := readRelease(t, spring, "Rule E 1980 2024 - Oct lastSun 1:00u 0 -", "Rule E 2025 max - Oct Sun>=8 1:00u 0 -", zone)
	spans := impl.Diff(impl.TableOf(old, "P").Table, impl.TableOf(newer, "P").Table)
	if len(spans) != 2037-2025+1 {
		t.Fatalf("got %v, want one for each year from 2025 to 2037", spans)
	}
	if want := span(instant(t, "2025-10-12 01:00:00"), instant(t, "2025-10-26 00:59:59")); spans[0] != want {
		t.Errorf("got %v, want %v first", spans[0], want)
	}
	if want := span(instant(t, "2037-10-11 01:00:00"), instant(t, "2037-10-25 00:59:59")); spans[12] != want {
		t.Errorf("got %v, want %v last", spans[12], want)
	}
}

func TestSpansAreNewMemory(t *testing.T) {
	a, b := aTable(), clockOf(561, at{-500, 3600}, at{700, 1})
	want := []impl.Span{span(-1000, -501), span(700, impl.MaxTime)}
	first, second := impl.Diff(a, b), impl.Diff(a, b)
	first[0] = span(1, 2)
	_ = append(first[:1], span(3, 4))
	if !slices.Equal(second, want) {
		t.Errorf("another answer has become %v", second)
	}
	isSpans(t, a, b, want...)
	impl.Changed(a, b, 5, 1, 1)
	if !slices.Equal(a.Turns, aTable().Turns) || !slices.Equal(b.Turns, clockOf(561, at{-500, 3600}, at{700, 1}).Turns) {
		t.Errorf("the Tables have become %+v and %+v", a, b)
	}
}
