package tests

import (
	"fmt"
	"slices"
	"strings"
	"testing"

	"loop.example/g00364/impl"
)

// aTable is a right one; each call makes a new one.
func aTable() impl.Table {
	return impl.Table{Turns: []impl.Turn{
		{At: impl.MinTime, Offset: 561, Abbr: "LMT"},
		{At: -1000, Offset: 3600, Abbr: "CET"},
		{At: 1000, Offset: 7200, Save: 3600, Abbr: "CEST"},
		{At: 1001, Offset: 3600, Abbr: "CET"},
	}}
}

// isRightTable asks the same of all calls that take a Table.
func isRightTable(t *testing.T, what string, table impl.Table, want bool) {
	t.Helper()
	if got := impl.TableRight(table); got != want {
		t.Errorf("%s: is it right? got %v, want %v", what, got, want)
	}
	for _, at := range []int64{impl.MinTime, 0, impl.MaxTime} {
		got := impl.TurnAt(table, at)
		if !want && got != (impl.Turn{}) {
			t.Errorf("%s: got the Turn %+v at %d, want none", what, got, at)
		}
		if want && !slices.Contains(table.Turns, got) {
			t.Errorf("%s: got the Turn %+v at %d, which the table has not", what, got, at)
		}
		isOfRightTable(t, fmt.Sprint(what, ", at ", at), table, at, want)
	}
	isDiffOfRightTable(t, what, table, want)
}

// isOfRightTable asks the clock's calls whether they take a Table.
func isOfRightTable(t *testing.T, what string, table impl.Table, at int64, want bool) {
	t.Helper()
	for _, got := range []impl.NumOut{impl.WallOf(table, at), impl.Resolve(table, at, 1, 1)} {
		if want != (got.Code != impl.ErrForm) || !want && got.N != 0 {
			t.Errorf("%s: got %+v", what, got)
		}
	}
	got := impl.InstantsOf(table, at)
	if !want && len(got) > 0 {
		t.Errorf("%s: got the instants %v", what, got)
	}
}

// isDiffOfRightTable asks the calls that take two Tables, with one that has none of its Offsets.
func isDiffOfRightTable(t *testing.T, what string, table impl.Table, want bool) {
	t.Helper()
	other := impl.Table{Turns: []impl.Turn{{At: impl.MinTime, Offset: -77777}}}
	for _, pair := range [][2]impl.Table{{table, other}, {other, table}} {
		if got := impl.Diff(pair[0], pair[1]); (len(got) == 1) != want {
			t.Errorf("%s: got the Spans %v", what, got)
		}
		// The other clock shows each wall time once, and the Table's never at that instant.
		if got := impl.Changed(pair[0], pair[1], 500000, 0, 0); got != want {
			t.Errorf("%s: changed? got %v, want %v", what, got, want)
		}
	}
}

func withTurn(place int, change func(*impl.Turn)) impl.Table {
	table := aTable()
	change(&table.Turns[place])
	return table
}

// eachTurnNumber asks of numbers at, and one beyond, their limits, and of extreme ones, in each Turn.
func eachTurnNumber(t *testing.T, what string, least int64, most int64, field func(*impl.Turn) *int64) {
	t.Helper()
	for _, n := range append([]int64{least - 1, least, least + 1, most - 1, most, most + 1, 0, -1, 1}, extremes...) {
		for place := range aTable().Turns {
			table := withTurn(place, func(turn *impl.Turn) { *field(turn) = n })
			isRightTable(t, fmt.Sprint(what, " of ", n, " in ", place), table, n >= least && n <= most)
		}
	}
}

func TestNumbersAndTextsOfTurns(t *testing.T) {
	eachTurnNumber(t, "Offset", -100000, 100000, func(turn *impl.Turn) *int64 { return &turn.Offset })
	eachTurnNumber(t, "Save", -7200, 7200, func(turn *impl.Turn) *int64 { return &turn.Save })
	for place := range aTable().Turns {
		abbrs := map[string]bool{"": true, "A": true, strings.Repeat("A", 20): true, strings.Repeat("A", 21): false, strings.Repeat("A", 9000): false, "\x00\n é": true, strings.Repeat("é", 10): true, strings.Repeat("é", 11): false}
		for abbr, want := range abbrs {
			isRightTable(t, fmt.Sprintf("Abbr of %.30q in %d", abbr, place), withTurn(place, func(turn *impl.Turn) { turn.Abbr = abbr }), want)
		}
	}
}

func TestTurnsInTheirOrder(t *testing.T) {
	isRightTable(t, "one of four", aTable(), true)
	for _, n := range append([]int64{impl.MinTime - 1, impl.MinTime, impl.MinTime + 1, -1001, -1000, 0, 1000, 1001, impl.MaxTime, impl.MaxTime + 1}, extremes...) {
		alone := impl.Table{Turns: []impl.Turn{{At: n}}}
		isRightTable(t, fmt.Sprint("one alone at ", n), alone, n == impl.MinTime)
		first := withTurn(0, func(turn *impl.Turn) { turn.At = n })
		isRightTable(t, fmt.Sprint("the first at ", n), first, n == impl.MinTime)
		second := withTurn(1, func(turn *impl.Turn) { turn.At = n })
		isRightTable(t, fmt.Sprint("the second at ", n), second, n > impl.MinTime && n < 1000)
		last := withTurn(3, func(turn *impl.Turn) { turn.At = n })
		isRightTable(t, fmt.Sprint("the last at ", n), last, n > 1000 && n <= impl.MaxTime)
	}
	for _, order := range orders(4) {
		table := impl.Table{}
		for _, place := range order {
			table.Turns = append(table.Turns, aTable().Turns[place])
		}
		isRightTable(t, fmt.Sprint("the order ", order), table, slices.IsSorted(order))
	}
	// Turns that are alike but for At may stand in a right Table.
	isRightTable(t, "two alike", impl.Table{Turns: []impl.Turn{{At: impl.MinTime}, {At: 0}}}, true)
}

// manyTurns has so many; its times are in the middle of time, 10 seconds apart.
func manyTurns(many int) impl.Table {
	table := impl.Table{}
	for i := range many {
		table.Turns = append(table.Turns, impl.Turn{At: int64(i) * 10, Offset: int64(i)})
	}
	if many > 0 {
		table.Turns[0].At = impl.MinTime
	}
	return table
}

func TestHowManyTurnsARightTableHas(t *testing.T) {
	for many, want := range map[int]bool{0: false, 1: true, 2: true, 400: true, 401: true, 599: true, 600: true, 601: false, 1000: false} {
		isRightTable(t, fmt.Sprint(many, " Turns"), manyTurns(many), want)
	}
	isRightTable(t, "an empty list", impl.Table{Turns: []impl.Turn{}}, false)
}

func isTurnAt(t *testing.T, table impl.Table, at int64, want impl.Turn) {
	t.Helper()
	if got := impl.TurnAt(table, at); got != want {
		t.Errorf("at %d of %d Turns: got %+v, want %+v", at, len(table.Turns), got, want)
	}
}

func TestTurnAt(t *testing.T) {
	for _, many := range []int{1, 2, 3, 4, 5, 7, 8, 9, 600} {
		table := manyTurns(many)
		for i, turn := range table.Turns {
			isTurnAt(t, table, turn.At, turn)
			isTurnAt(t, table, turn.At+1, turn)
			if i > 0 {
				isTurnAt(t, table, turn.At-1, table.Turns[i-1])
			}
		}
		isTurnAt(t, table, 1, table.Turns[0])
		isTurnAt(t, table, impl.MaxTime-1, table.Turns[many-1])
		isTurnAt(t, table, impl.MaxTime, table.Turns[many-1])
		for _, at := range append([]int64{impl.MinTime - 1, impl.MaxTime + 1}, extremes...) {
			want := impl.Turn{}
			if at >= impl.MinTime && at <= impl.MaxTime {
				want = table.Turns[0]
				if at > 0 {
					want = table.Turns[many-1]
				}
			}
			isTurnAt(t, table, at, want)
		}
	}
	end := withTurn(3, func(turn *impl.Turn) { turn.At = impl.MaxTime })
	isTurnAt(t, end, impl.MaxTime, end.Turns[3])
	isTurnAt(t, end, impl.MaxTime-1, end.Turns[2])
	isTurnAt(t, end, impl.MaxTime+1, impl.Turn{})
}

func TestTablesHandedInStay(t *testing.T) {
	table := aTable()
	impl.TableRight(table)
	impl.TurnAt(table, 5)
	if !slices.Equal(table.Turns, aTable().Turns) {
		t.Errorf("the Table has become %+v", table)
	}
}
