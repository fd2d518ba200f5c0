package tests

import (
	"fmt"
	"math"
	"slices"
	"strings"
	"testing"

	"loop.example/g00364/impl"
)

func isFound(t *testing.T, s impl.Store, from int64, to int64, want ...impl.Entry) {
	t.Helper()
	if got := impl.Find(s, from, to); !slices.Equal(got, want) {
		t.Errorf("from %d to %d: got %v, want %v", from, to, got, want)
	}
}

func isFoundByWall(t *testing.T, s impl.Store, zone string, from int64, to int64, want ...impl.Event) {
	t.Helper()
	if got := impl.FindWall(s, zone, from, to); !slices.Equal(got, want) {
		t.Errorf("%.30q from %d to %d: got %+v, want %+v", zone, from, to, got, want)
	}
}

// nearEntries are instants at, and one second to both sides of, each entry's, and both ends of time and of numbers.
func nearEntries(entries []impl.Entry) []int64 {
	instants := append([]int64{impl.MinTime - 1, impl.MinTime, 0, impl.MaxTime, impl.MaxTime + 1}, extremes...)
	for _, entry := range entries {
		instants = append(instants, entry.At-1, entry.At, entry.At+1)
	}
	slices.Sort(instants)
	return slices.Compact(instants)
}

// Promise 12: what is found between two instants, parted anywhere, is found in both parts.
func isPartedAt(t *testing.T, s impl.Store, all []impl.Entry, from int64, part int64, to int64) {
	t.Helper()
	want := slices.DeleteFunc(slices.Clone(all), func(e impl.Entry) bool { return e.At < from || e.At > to })
	isFound(t, s, from, to, want...)
	if part < math.MaxInt64 {
		isFound(t, s, from, to, append(impl.Find(s, from, part), impl.Find(s, part+1, to)...)...)
	}
	if from < to {
		isFound(t, s, to, from)
	}
}

// isParted asks all pairs of instants near the entries, each parted at another place.
func isParted(t *testing.T, s impl.Store) {
	t.Helper()
	all := impl.Find(s, math.MinInt64, math.MaxInt64)
	instants := nearEntries(all)
	for i, from := range instants {
		for k, to := range instants[i:] {
			isPartedAt(t, s, all, from, instants[i+(i+7*k)%(k+1)], to)
		}
	}
}

func TestFindNearEntries(t *testing.T) {
	s := storeOf(t, olderText, event(3, "Q", 9000+5), event(2, "P", 3600+5), event(1, "Older", 7), event(4, "Home", 3600+3), event(5, "P", gapWall))
	five, seven, three := impl.Entry{At: 5, Id: 2}, impl.Entry{At: 7, Id: 1}, impl.Entry{At: 3, Id: 4}
	other := impl.Entry{At: 5, Id: 3}
	isFound(t, s, 0, 10, three, five, other, seven)
	isFound(t, s, 3, 7, three, five, other, seven)
	isFound(t, s, 4, 6, five, other)
	isFound(t, s, 5, 5, five, other)
	isFound(t, s, 6, 6)
	isFound(t, s, 7, 5)
	isFound(t, s, 5, 4)
	isFound(t, s, 7, math.MaxInt64, seven)
	isFound(t, s, 8, math.MaxInt64)
	isFound(t, s, math.MinInt64, 3, three)
	isFound(t, s, math.MinInt64, 2)
	isFound(t, s, math.MinInt64, math.MaxInt64, three, five, other, seven)
	isFound(t, s, math.MaxInt64, math.MinInt64)
	isParted(t, s)
	isParted(t, impl.Store{})
	isParted(t, manyLive(t, 30))
	isParted(t, aStore(t))
	isParted(t, fiveEvents(t))
}

// At both ends of time: the entries there are found, too.
func TestFindAtBothEndsOfTime(t *testing.T) {
	s := storeOf(t, olderText, event(1, "Older", impl.MinTime), event(2, "Older", impl.MaxTime), event(3, "Older", impl.MinTime), event(4, "Older", 0))
	isFound(t, s, impl.MinTime, impl.MinTime, impl.Entry{At: impl.MinTime, Id: 1}, impl.Entry{At: impl.MinTime, Id: 3})
	isFound(t, s, impl.MaxTime, impl.MaxTime, impl.Entry{At: impl.MaxTime, Id: 2})
	isFound(t, s, impl.MinTime+1, impl.MaxTime-1, impl.Entry{At: 0, Id: 4})
	isFound(t, s, impl.MaxTime+1, math.MaxInt64)
	isFound(t, s, math.MinInt64, impl.MinTime-1)
	isParted(t, s)
}

// The index may be by the older rules still: what is found is by the newer ones, at once, in their order.
func TestFindByTheRulesOfNow(t *testing.T) {
	east := "Zone P 5:00 - X\nZone Q 1:00 - X\n"
	west := "Zone P 0 - X\nZone Q 1:00 - X\n"
	s := isInstalled(t, storeOf(t, east, event(1, "P", 7200), event(2, "Q", 7200)), west)
	if want := []impl.Entry{{At: -10800, Id: 1}, {At: 3600, Id: 2}}; !slices.Equal(s.Index, want) {
		t.Errorf("got the Index %v, want %v", s.Index, want)
	}
	for range 3 {
		isFound(t, s, impl.MinTime, impl.MaxTime, impl.Entry{At: 3600, Id: 2}, impl.Entry{At: 7200, Id: 1})
		isFound(t, s, 7200, 7200, impl.Entry{At: 7200, Id: 1})
		isFound(t, s, -10800, -10800)
		isParted(t, s)
		if s.Cursor > 0 {
			s = isStored(t, impl.Batch(s, 1))
		}
	}
	// One that has an instant by the newer rules alone, and one that has it by the older ones alone.
	gapless := "Zone P 1:00 - X\n"
	s = isInstalled(t, storeOf(t, olderText, event(1, "P", gapWall)), gapless)
	if len(s.Index) > 0 {
		t.Errorf("got the Index %v, want none", s.Index)
	}
	isFound(t, s, gapWall-3600, gapWall-3600, impl.Entry{At: gapWall - 3600, Id: 1})
	s = isInstalled(t, storeOf(t, gapless, event(1, "P", gapWall)), olderText)
	if len(s.Index) != 1 {
		t.Errorf("got the Index %v, want one entry", s.Index)
	}
	isFound(t, s, impl.MinTime, impl.MaxTime)
}

func TestFindWall(t *testing.T) {
	a, b, c, d, e := event(9, "P", 100), event(2, "P", 300), event(5, "P", 200), event(7, "P", 200), event(1, "P", 200)
	home, q := event(3, "Home", 200), event(4, "Q", 200)
	s := storeOf(t, olderText, a, b, c, home, q, d, e)
	isFoundByWall(t, s, "P", 0, 1000, a, e, c, d, b)
	isFoundByWall(t, s, "P", 100, 300, a, e, c, d, b)
	isFoundByWall(t, s, "P", 101, 299, e, c, d)
	isFoundByWall(t, s, "P", 200, 200, e, c, d)
	isFoundByWall(t, s, "P", 100, 100, a)
	isFoundByWall(t, s, "P", 300, 300, b)
	isFoundByWall(t, s, "P", 101, 199)
	isFoundByWall(t, s, "P", 201, 199)
	isFoundByWall(t, s, "P", 300, 100)
	isFoundByWall(t, s, "P", math.MinInt64, math.MaxInt64, a, e, c, d, b)
	isFoundByWall(t, s, "P", math.MaxInt64, math.MinInt64)
	// A Link's Events are by its own Name.
	isFoundByWall(t, s, "Home", 0, 1000, home)
	isFoundByWall(t, s, "Q", 0, 1000, q)
	for _, zone := range []string{"Older", "", "None", "p", "E", "P ", "PP", strings.Repeat("P", impl.MaxBytes), strings.Repeat("P", impl.MaxBytes+1)} {
		isFoundByWall(t, s, zone, math.MinInt64, math.MaxInt64)
	}
	// What is dropped, or put elsewhere, is not found any more.
	s = isDropped(t, s, 5)
	moved := event(7, "Q", 199)
	s = isPut(t, s, moved)
	isFoundByWall(t, s, "P", 0, 1000, a, e, b)
	isFoundByWall(t, s, "Q", 0, 1000, moved, q)
	// By walls the rules do not count.
	s = isInstalled(t, s, newerText)
	isFoundByWall(t, s, "P", 0, 1000, a, e, b)
}

func TestFindWallAtBothEndsOfTime(t *testing.T) {
	first, last := event(8, "Q", impl.MinTime), event(3, "Q", impl.MaxTime)
	s := storeOf(t, olderText, last, first)
	if len(s.Index) != 1 {
		t.Errorf("got the Index %v, want the last one alone", s.Index)
	}
	isFoundByWall(t, s, "Q", impl.MinTime, impl.MaxTime, first, last)
	isFoundByWall(t, s, "Q", impl.MinTime, impl.MaxTime-1, first)
	isFoundByWall(t, s, "Q", impl.MinTime+1, impl.MaxTime, last)
	isFoundByWall(t, s, "Q", impl.MinTime+1, impl.MaxTime-1)
	isFoundByWall(t, s, "Q", math.MinInt64, impl.MinTime-1)
	isFoundByWall(t, s, "Q", impl.MaxTime+1, math.MaxInt64)
}

// All orders in which Events of few wall times are put are found in one order.
func TestFindWallInOneOrder(t *testing.T) {
	events := []impl.Event{event(1, "P", 20), event(2, "P", 10), event(3, "P", 20), event(4, "P", 10)}
	want := []impl.Event{events[1], events[3], events[0], events[2]}
	for _, order := range orders(4) {
		s := storeOf(t, olderText)
		for _, place := range order {
			s = isStored(t, impl.Put(s, events[place]))
		}
		isFoundByWall(t, s, "P", 0, 100, want...)
		isLive(t, fmt.Sprint(order), s, events...)
		isFound(t, s, -10000, 0, impl.Entry{At: 10 - 3600, Id: 2}, impl.Entry{At: 10 - 3600, Id: 4}, impl.Entry{At: 20 - 3600, Id: 1}, impl.Entry{At: 20 - 3600, Id: 3})
	}
}
