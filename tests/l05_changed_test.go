package tests

import (
	"testing"

	"loop.example/g00364/impl"
)

// isChanged asks with all gaps and folds that there are, with ones beyond them, and with the Tables in either order.
func isChanged(t *testing.T, a impl.Table, b impl.Table, wall int64, want func(gap int64, fold int64) bool) {
	t.Helper()
	choices := append([]int64{-1, 0, 1, 2, 3}, extremes...)
	for _, gap := range choices {
		for _, fold := range choices {
			asked := gap >= 0 && gap <= 2 && fold >= 0 && fold <= 2 && want(gap, fold)
			if got := impl.Changed(a, b, wall, gap, fold); got != asked {
				t.Fatalf("%d with the gap %d and the fold %d: got %v, want %v; of\n%sand\n%s", wall, gap, fold, got, asked, clockText(a), clockText(b))
			}
			if got := impl.Changed(b, a, wall, gap, fold); got != asked {
				t.Fatalf("%d with the gap %d and the fold %d, the other way round: got %v, want %v; of\n%sand\n%s", wall, gap, fold, got, asked, clockText(a), clockText(b))
			}
		}
	}
}

func isAlwaysChanged(t *testing.T, a impl.Table, b impl.Table, wall int64) {
	t.Helper()
	isChanged(t, a, b, wall, func(int64, int64) bool { return true })
}

func isNeverChanged(t *testing.T, a impl.Table, b impl.Table, wall int64) {
	t.Helper()
	isChanged(t, a, b, wall, func(int64, int64) bool { return false })
}

func TestChangedOfTimesThatAreShownOnce(t *testing.T) {
	a, b := clockOf(0), clockOf(0, at{100, 60}, at{300, 0})
	isNeverChanged(t, a, b, 99)
	isNeverChanged(t, a, b, 360)
	isNeverChanged(t, a, b, impl.MinTime)
	isNeverChanged(t, a, b, impl.MaxTime)
	for _, wall := range []int64{160, 161, 299} {
		isAlwaysChanged(t, a, b, wall)
	}
	for _, wall := range []int64{impl.MinTime + 1, 0, impl.MaxTime} {
		isAlwaysChanged(t, clockOf(0), clockOf(1), wall)
		isNeverChanged(t, clockOf(1), clockOf(1), wall)
	}
}

// A wall time in a gap of the one has there the code, and there the other's instant.
func TestChangedOfTimesInAGapOfOne(t *testing.T) {
	a, b := clockOf(0), clockOf(0, at{100, 60}, at{300, 0})
	for wall := int64(100); wall < 160; wall++ {
		// Of the gap 1 the Offset ahead counts, which is that of the other clock.
		isChanged(t, a, b, wall, func(gap int64, fold int64) bool { return gap != 1 })
		// Behind it, here.
		isChanged(t, clockOf(60), b, wall, func(gap int64, fold int64) bool { return gap != 2 })
		isAlwaysChanged(t, clockOf(61), b, wall)
	}
}

func TestChangedOfTimesInAFoldOfOne(t *testing.T) {
	a, b := clockOf(0), clockOf(0, at{100, 60}, at{300, 0})
	for wall := int64(300); wall < 360; wall++ {
		isChanged(t, a, b, wall, func(gap int64, fold int64) bool { return fold != 2 })
		isChanged(t, clockOf(60), b, wall, func(gap int64, fold int64) bool { return fold != 1 })
		isAlwaysChanged(t, clockOf(61), b, wall)
	}
}

// Both clocks have a gap, or a fold: the codes are alike, what the choices tell may not be.
func TestChangedOfTimesInGapsAndFoldsOfBoth(t *testing.T) {
	gap := clockOf(0, at{100, 60})
	isNeverChanged(t, gap, clockOf(0, at{100, 60}, at{1000, 0}), 150)
	isChanged(t, gap, clockOf(0, at{100, 61}), 150, func(gap int64, fold int64) bool { return gap == 2 })
	isChanged(t, gap, clockOf(-1, at{100, 60}), 150, func(gap int64, fold int64) bool { return gap == 1 })
	isChanged(t, gap, clockOf(-1, at{100, 61}), 150, func(gap int64, fold int64) bool { return gap != 0 })
	// The gaps begin at other instants, but turn alike.
	isNeverChanged(t, gap, clockOf(0, at{110, 60}), 150)
	isChanged(t, gap, clockOf(0, at{110, 60}), 105, func(gap int64, fold int64) bool { return gap != 1 })
	isChanged(t, gap, clockOf(0, at{110, 60}), 165, func(gap int64, fold int64) bool { return gap != 2 })
	fold := clockOf(60, at{300, 0})
	isNeverChanged(t, fold, clockOf(60, at{300, 0}, at{1000, 60}), 310)
	isChanged(t, fold, clockOf(60, at{300, -1}), 310, func(gap int64, fold int64) bool { return fold == 2 })
	isChanged(t, fold, clockOf(61, at{300, 0}), 310, func(gap int64, fold int64) bool { return fold == 1 })
	isChanged(t, fold, clockOf(61, at{300, -1}), 310, func(gap int64, fold int64) bool { return fold != 0 })
	// Shown twice by the one, and thrice by the other, first and last at the same instants.
	isNeverChanged(t, clockOf(60, at{300, 0}), clockOf(60, at{300, 30}, at{310, 0}), 335)
	// In a gap of the one, and in a fold of the other.
	isChanged(t, clockOf(0, at{300, 60}), fold, 310, func(gap int64, fold int64) bool {
		return !(gap == 1 && fold == 2 || gap == 2 && fold == 1)
	})
}

// What no stretch and no gap has is alike, whatever the Offsets.
func TestChangedBeyondBothEndsOfTime(t *testing.T) {
	isNeverChanged(t, clockOf(50), clockOf(60), impl.MinTime+49)
	isAlwaysChanged(t, clockOf(50), clockOf(60), impl.MinTime+50)
	isAlwaysChanged(t, clockOf(50), clockOf(60), impl.MinTime+59)
	isNeverChanged(t, clockOf(-50), clockOf(-60), impl.MaxTime-49)
	isAlwaysChanged(t, clockOf(-50), clockOf(-60), impl.MaxTime-50)
	isAlwaysChanged(t, clockOf(-50), clockOf(-60), impl.MaxTime-59)
	// The code is ErrRange of the one, and ErrGap, an instant, or ErrRange of the other.
	gap := clockOf(0, at{impl.MinTime + 10, 100})
	isChanged(t, gap, clockOf(200), impl.MinTime+50, func(gap int64, fold int64) bool { return gap != 2 })
	// The number 0 is told by both, with another code.
	isChanged(t, clockOf(0), clockOf(0, at{0, 60}), 0, func(gap int64, fold int64) bool { return gap != 1 })
	isChanged(t, clockOf(0), clockOf(60, at{0, 0}), 0, func(gap int64, fold int64) bool { return fold != 2 })
}

func TestChangedBySaveAndAbbrAlone(t *testing.T) {
	for place := range aTable().Turns {
		other := withTurn(place, func(turn *impl.Turn) { turn.Save, turn.Abbr = 7, "other" })
		for _, wall := range []int64{impl.MinTime, impl.MinTime + 561, -5000, -500, 0, 4600, 4601, 8200, 8201, impl.MaxTime} {
			isNeverChanged(t, aTable(), other, wall)
		}
	}
}

func TestChangedOfWrongThings(t *testing.T) {
	times := append([]int64{0, 5, impl.MinTime, impl.MaxTime}, extremes...)
	for _, wrong := range wrongTables() {
		for _, wall := range times {
			for _, other := range append([]impl.Table{clockOf(7), clockOf(0, at{0, 10}), wrong}, wrongTables()...) {
				isNeverChanged(t, wrong, other, wall)
			}
		}
	}
	for _, wall := range append([]int64{impl.MinTime - 1, impl.MaxTime + 1, impl.MinTime - 100000, impl.MaxTime + 100000}, extremes...) {
		if wall < impl.MinTime || wall > impl.MaxTime {
			isNeverChanged(t, clockOf(-100000), clockOf(100000), wall)
			isNeverChanged(t, clockOf(0, at{0, 10}), clockOf(1), wall)
		}
	}
}

func TestChangedByRules(t *testing.T) {
	old := readRelease(t, "Rule E 1980 max - Mar lastSun 1:00u 1:00 S", "Rule E 1980 max - Oct lastSun 1:00u 0 -", "Zone P 1:00 E CE%sT")
	newer := readRelease(t, "Rule E 1980 2029 - Mar lastSun 1:00u 1:00 S", "Rule E 1980 max - Oct lastSun 1:00u 0 -", "Zone P 1:00 E CE%sT")
	a, b := impl.TableOf(old, "P").Table, impl.TableOf(newer, "P").Table
	for _, text := range []string{"2029-07-01 09:00:00", "2029-12-01 09:00:00", "2030-03-31 01:59:59", "2030-10-27 03:00:00", "2031-01-01 09:00:00", "2038-07-01 09:00:00"} {
		isNeverChanged(t, a, b, instant(t, text))
	}
	for _, text := range []string{"2030-03-31 03:00:00", "2030-07-01 09:00:00", "2030-10-27 01:59:59", "2037-07-01 09:00:00"} {
		isAlwaysChanged(t, a, b, instant(t, text))
	}
	isChanged(t, a, b, instant(t, "2030-03-31 02:30:00"), func(gap int64, fold int64) bool { return gap != 1 })
	isChanged(t, a, b, instant(t, "2030-10-27 02:30:00"), func(gap int64, fold int64) bool { return fold != 2 })
}
