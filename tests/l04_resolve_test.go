package tests

import (
	"testing"

	"loop.example/g00364/impl"
)

// none is beside a code.
func none(code int64) impl.NumOut {
	return impl.NumOut{Code: code}
}

func found(at int64) impl.NumOut {
	return impl.NumOut{N: at}
}

// isResolved asks with all gaps and folds that there are, and with ones beyond them.
func isResolved(t *testing.T, table impl.Table, wall int64, want func(gap int64, fold int64) impl.NumOut) {
	t.Helper()
	choices := append([]int64{-1, 0, 1, 2, 3}, extremes...)
	for _, gap := range choices {
		for _, fold := range choices {
			asked := none(impl.ErrForm)
			if gap >= 0 && gap <= 2 && fold >= 0 && fold <= 2 {
				asked = want(gap, fold)
			}
			if got := impl.Resolve(table, wall, gap, fold); got != asked {
				t.Fatalf("%d with the gap %d and the fold %d: got %+v, want %+v; of\n%s", wall, gap, fold, got, asked, clockText(table))
			}
		}
	}
}

// isOnce asks for one instant, whatever is to be done with gaps and folds.
func isOnce(t *testing.T, table impl.Table, wall int64, at int64) {
	t.Helper()
	isResolved(t, table, wall, func(int64, int64) impl.NumOut { return found(at) })
}

func isFold(t *testing.T, table impl.Table, wall int64, first int64, last int64) {
	t.Helper()
	isResolved(t, table, wall, func(gap int64, fold int64) impl.NumOut {
		return []impl.NumOut{none(impl.ErrFold), found(first), found(last)}[fold]
	})
}

func isGap(t *testing.T, table impl.Table, wall int64, byAhead impl.NumOut, byOwn impl.NumOut) {
	t.Helper()
	isResolved(t, table, wall, func(gap int64, fold int64) impl.NumOut {
		return []impl.NumOut{none(impl.ErrGap), byAhead, byOwn}[gap]
	})
}

func isNowhere(t *testing.T, table impl.Table, wall int64) {
	t.Helper()
	isResolved(t, table, wall, func(int64, int64) impl.NumOut { return none(impl.ErrRange) })
}

func TestGapsAndFoldsByRules(t *testing.T) {
	r := readRelease(t, "Rule E 1980 max - Mar lastSun 1:00u 1:00 S", "Rule E 1980 max - Oct lastSun 1:00u 0 -", "Zone P 1:00 E CE%sT")
	table := impl.TableOf(r, "P").Table
	day := func(text string) int64 { return instant(t, text) }
	isOnce(t, table, day("2024-03-31 01:59:59"), day("2024-03-31 00:59:59"))
	isGap(t, table, day("2024-03-31 02:00:00"), found(day("2024-03-31 01:00:00")), found(day("2024-03-31 00:00:00")))
	isGap(t, table, day("2024-03-31 02:59:59"), found(day("2024-03-31 01:59:59")), found(day("2024-03-31 00:59:59")))
	isOnce(t, table, day("2024-03-31 03:00:00"), day("2024-03-31 01:00:00"))
	isOnce(t, table, day("2024-10-27 01:59:59"), day("2024-10-26 23:59:59"))
	isFold(t, table, day("2024-10-27 02:00:00"), day("2024-10-27 00:00:00"), day("2024-10-27 01:00:00"))
	isFold(t, table, day("2024-10-27 02:59:59"), day("2024-10-27 00:59:59"), day("2024-10-27 01:59:59"))
	isOnce(t, table, day("2024-10-27 03:00:00"), day("2024-10-27 02:00:00"))
	isNowhere(t, table, day("0001-01-01 00:00:00"))
	isNowhere(t, table, day("0001-01-01 00:59:59"))
	isOnce(t, table, day("0001-01-01 01:00:00"), day("0001-01-01 00:00:00"))
	isOnce(t, table, day("9999-12-31 23:59:59"), day("9999-12-31 22:59:59"))
}

// Each of a gap's wall times, and those ahead of and behind it.
func TestAGapFromItsFirstToItsLast(t *testing.T) {
	table := clockOf(-30, at{1000, 70}, at{5000, 69}, at{9000, 70})
	for wall := int64(900); wall < 970; wall++ {
		isOnce(t, table, wall, wall+30)
	}
	for wall := int64(970); wall < 1070; wall++ {
		isGap(t, table, wall, found(wall+30), found(wall-70))
	}
	for wall := int64(1070); wall < 1100; wall++ {
		isOnce(t, table, wall, wall-70)
	}
	isOnce(t, table, 5068, 4998)
	isFold(t, table, 5069, 4999, 5000)
	isOnce(t, table, 5070, 5001)
	isOnce(t, table, 9068, 8999)
	isGap(t, table, 9069, found(9000), found(8999))
	isOnce(t, table, 9070, 9000)
}

// Promise 8: the two instants of a gap's wall time are the gap's length apart.
func TestGapsOfAllLengths(t *testing.T) {
	for _, ahead := range []int64{-100000, -99999, -3600, -1, 0, 1, 3600, 99999} {
		for _, length := range []int64{1, 2, 59, 3600, 86400, 100001, 199999, 200000} {
			if ahead+length > 100000 {
				continue
			}
			table := clockOf(ahead, at{0, ahead + length})
			isOnce(t, table, ahead-1, -1)
			isGap(t, table, ahead, found(0), found(-length))
			isGap(t, table, ahead+length-1, found(length-1), found(-1))
			isOnce(t, table, ahead+length, 0)
		}
	}
}

func TestTimesThatAreShownTwiceAndMoreOften(t *testing.T) {
	table := clockOf(30, at{100, 20}, at{105, 10}, at{110, 0})
	isOnce(t, table, 109, 79)
	isFold(t, table, 110, 80, 110)
	isFold(t, table, 115, 85, 115)
	isFold(t, table, 120, 90, 120)
	isFold(t, table, 124, 94, 124)
	isOnce(t, table, 130, 130)
	apart := clockOf(100000, at{0, -100000})
	isOnce(t, apart, -100001, -200001)
	isFold(t, apart, -100000, -200000, 0)
	isFold(t, apart, 0, -100000, 100000)
	isFold(t, apart, 99999, -1, 199999)
	isOnce(t, apart, 100000, 200000)
}

// A wall time that some gap leaps over, but that another stretch shows, is in no gap.
func TestTimesThatAreLeaptOverAndShown(t *testing.T) {
	table := clockOf(0, at{10, 100000}, at{11, -100000}, at{12, 100000}, at{13, 0})
	isOnce(t, table, 9, 9)
	isGap(t, table, 10, found(10), found(10-100000))
	isGap(t, table, 12, found(12), found(12-100000))
	isOnce(t, table, 13, 13)
	isOnce(t, table, 100009, 100009)
	isFold(t, table, 100010, 10, 100010)
	isOnce(t, table, 100011, 100011)
	isFold(t, table, -99989, -99989, 11)
	isOnce(t, table, -99988, -99988)
}

// Of two gaps that leap over one wall time, the first counts, whichever is the longer.
func TestGapsThatLieInEachOther(t *testing.T) {
	rising := clockOf(0, at{10, 50}, at{20, 10}, at{30, 100}, at{31, 300}, at{40, 3000})
	isOnce(t, rising, 9, 9)
	isGap(t, rising, 10, found(10), found(-40))
	isGap(t, rising, 29, found(29), found(-21))
	isOnce(t, rising, 30, 20)
	isOnce(t, rising, 39, 29)
	isGap(t, rising, 40, found(40), found(-10)) // of the Turn at 10, and of that at 30
	isGap(t, rising, 59, found(59), found(9))
	isOnce(t, rising, 60, 10)
	isOnce(t, rising, 69, 19)
	isGap(t, rising, 70, found(60), found(-30)) // of the Turn at 30 alone
	isGap(t, rising, 129, found(119), found(29))
	isOnce(t, rising, 130, 30)
	isGap(t, rising, 131, found(31), found(-169))
	isGap(t, rising, 330, found(230), found(30))
	isOnce(t, rising, 331, 31)
	isOnce(t, rising, 339, 39)
	isGap(t, rising, 340, found(40), found(-2660))
	isGap(t, rising, 3039, found(2739), found(39))
	isOnce(t, rising, 3040, 40)
}

// Turns whose gaps hold a wall time may begin as far from it as an Offset goes.
func TestGapsFarFromTheirTurn(t *testing.T) {
	low := clockOf(-100000, at{0, 100000})
	isGap(t, low, -100000, found(0), found(-200000))
	isGap(t, low, 99999, found(199999), found(-1))
	// The Turn that counts lies behind many others.
	table := manyTurns(impl.MaxTurns)
	last := &table.Turns[impl.MaxTurns-1]
	last.Offset = 100000
	isGap(t, table, last.At+598, found(last.At), found(last.At+598-100000))
	isGap(t, table, last.At+99999, found(last.At+99999-598), found(last.At-1))
	isOnce(t, table, last.At+100000, last.At)
}

// Such wall times are ahead of all that the first stretch shows, or behind all that the last one does.
func TestTimesThatNoGapHolds(t *testing.T) {
	for _, offset := range []int64{1, 3600, 99999, 100000} {
		for _, wall := range []int64{0, 1, offset / 2, offset - 1} {
			if wall >= offset {
				continue
			}
			isNowhere(t, clockOf(offset), impl.MinTime+wall)
			isNowhere(t, clockOf(-offset), impl.MaxTime-wall)
			isNowhere(t, clockOf(offset, at{0, 0}, at{1, 5}), impl.MinTime+wall)
			isNowhere(t, clockOf(0, at{0, 5}, at{1, -offset}), impl.MaxTime-wall)
		}
		isOnce(t, clockOf(offset), impl.MinTime+offset, impl.MinTime)
		isOnce(t, clockOf(-offset), impl.MaxTime-offset, impl.MaxTime)
	}
	// A fold behind the first instant: what is ahead of it is never shown, and in no gap.
	table := clockOf(10, at{impl.MinTime + 1, 5})
	isNowhere(t, table, impl.MinTime+5)
	isOnce(t, table, impl.MinTime+6, impl.MinTime+1)
	isFold(t, table, impl.MinTime+10, impl.MinTime, impl.MinTime+5)
	// The last stretch begins with MaxTime, and falls back there.
	table = clockOf(-5, at{impl.MaxTime, -10})
	isNowhere(t, table, impl.MaxTime)
	isNowhere(t, table, impl.MaxTime-5)
	isOnce(t, table, impl.MaxTime-6, impl.MaxTime-1)
	isFold(t, table, impl.MaxTime-10, impl.MaxTime-5, impl.MaxTime)
}

// An instant that lies beyond MinTime or MaxTime is told just where it is asked for.
func TestGapsBeyondBothEndsOfTime(t *testing.T) {
	first := clockOf(0, at{impl.MinTime + 10, 100})
	isOnce(t, first, impl.MinTime+9, impl.MinTime+9)
	isGap(t, first, impl.MinTime+10, found(impl.MinTime+10), none(impl.ErrRange))
	isGap(t, first, impl.MinTime+99, found(impl.MinTime+99), none(impl.ErrRange))
	isGap(t, first, impl.MinTime+100, found(impl.MinTime+100), found(impl.MinTime))
	isGap(t, first, impl.MinTime+109, found(impl.MinTime+109), found(impl.MinTime+9))
	isOnce(t, first, impl.MinTime+110, impl.MinTime+10)
	last := clockOf(-100, at{impl.MaxTime - 10, 0})
	isOnce(t, last, impl.MaxTime-111, impl.MaxTime-11)
	isGap(t, last, impl.MaxTime-110, found(impl.MaxTime-10), found(impl.MaxTime-110))
	isGap(t, last, impl.MaxTime-100, found(impl.MaxTime), found(impl.MaxTime-100))
	isGap(t, last, impl.MaxTime-99, none(impl.ErrRange), found(impl.MaxTime-99))
	isGap(t, last, impl.MaxTime-11, none(impl.ErrRange), found(impl.MaxTime-11))
	isOnce(t, last, impl.MaxTime-10, impl.MaxTime-10)
	// The clock falls back ahead of the first of all wall times, and leaps on again.
	back := clockOf(100000, at{impl.MinTime + 1, -100000}, at{impl.MinTime + 2, 50000})
	isGap(t, back, impl.MinTime, found(impl.MinTime+100000), none(impl.ErrRange))
	isGap(t, clockOf(10, at{impl.MinTime + 5, 20}, at{impl.MinTime + 6, 40}), impl.MinTime+26, found(impl.MinTime+6), none(impl.ErrRange))
	end := clockOf(-3600, at{impl.MaxTime, 3600})
	isOnce(t, end, impl.MaxTime-3601, impl.MaxTime-1)
	isGap(t, end, impl.MaxTime-3600, found(impl.MaxTime), found(impl.MaxTime-7200))
	isGap(t, end, impl.MaxTime-3599, none(impl.ErrRange), found(impl.MaxTime-7199))
	isGap(t, end, impl.MaxTime, none(impl.ErrRange), found(impl.MaxTime-3600))
	begin := clockOf(-5, at{impl.MinTime + 1, 5})
	isGap(t, begin, impl.MinTime, found(impl.MinTime+5), none(impl.ErrRange))
	isGap(t, begin, impl.MinTime+5, found(impl.MinTime+10), found(impl.MinTime))
	isOnce(t, begin, impl.MinTime+6, impl.MinTime+1)
}

func TestResolveOfWrongThings(t *testing.T) {
	form := func(int64, int64) impl.NumOut { return none(impl.ErrForm) }
	for _, table := range wrongTables() {
		for _, wall := range append([]int64{0, 5, impl.MinTime, impl.MaxTime}, extremes...) {
			isResolved(t, table, wall, form)
		}
	}
	for _, wall := range append([]int64{impl.MinTime - 1, impl.MaxTime + 1, impl.MinTime - 100000, impl.MaxTime + 100000}, extremes...) {
		if wall >= impl.MinTime && wall <= impl.MaxTime {
			continue
		}
		for _, offset := range []int64{0, 1, -1, 100000, -100000} {
			isResolved(t, clockOf(offset), wall, form)
			isResolved(t, clockOf(-offset, at{impl.MinTime + 1, offset}, at{impl.MaxTime, -offset}), wall, form)
		}
	}
}
