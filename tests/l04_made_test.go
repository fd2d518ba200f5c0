package tests

import (
	"slices"
	"testing"

	"loop.example/g00364/impl"
)

// slowOffset goes through all Turns, and keeps the last that is not behind the instant.
func slowOffset(table impl.Table, instant int64) int64 {
	offset := int64(0)
	for _, turn := range table.Turns {
		if turn.At <= instant {
			offset = turn.Offset
		}
	}
	return offset
}

// slowShown tries the instants that any of the Offsets would make of a wall time.
func slowShown(table impl.Table, wall int64) []int64 {
	shown := []int64{}
	for _, turn := range table.Turns {
		instant := wall - turn.Offset
		if instant >= impl.MinTime && instant <= impl.MaxTime && instant+slowOffset(table, instant) == wall {
			shown = append(shown, instant)
		}
	}
	slices.Sort(shown)
	return slices.Compact(shown)
}

// slowResolve is what the words of chapter 5 say of a right Table, a wall time, and right choices.
func slowResolve(table impl.Table, wall int64, shown []int64, gap int64, fold int64) impl.NumOut {
	if len(shown) > 1 && fold == 0 {
		return none(impl.ErrFold)
	}
	if len(shown) > 0 {
		return found([]int64{shown[0], shown[0], shown[len(shown)-1]}[fold])
	}
	for i := 1; i < len(table.Turns); i++ {
		turn, ahead := table.Turns[i], table.Turns[i-1].Offset
		if wall < turn.At+ahead || wall >= turn.At+turn.Offset {
			continue
		}
		if gap == 0 {
			return none(impl.ErrGap)
		}
		instant := wall - []int64{0, ahead, turn.Offset}[gap]
		if instant < impl.MinTime || instant > impl.MaxTime {
			return none(impl.ErrRange)
		}
		return found(instant)
	}
	return none(impl.ErrRange)
}

// shownKinds counts what wall times there were: never, once, twice or more often shown, in a gap, in none.
type shownKinds map[string]int

// isClock holds all calls against the slow ones; each instant of a wall time is asked for what the clock shows then.
func isClock(t *testing.T, table impl.Table, wall int64, shown []int64, kinds shownKinds) {
	t.Helper()
	isInstants(t, table, wall, shown...)
	for _, instant := range shown {
		isWall(t, table, instant, wall, impl.OK)
	}
	for gap := range int64(3) {
		for fold := range int64(3) {
			want := slowResolve(table, wall, shown, gap, fold)
			if got := impl.Resolve(table, wall, gap, fold); got != want {
				t.Errorf("%d with the gap %d and the fold %d: got %+v, want %+v; of\n%s", wall, gap, fold, got, want, clockText(table))
			}
		}
	}
	kinds[[]string{"never", "once", "twice", "more often"}[min(3, len(shown))]]++
	if len(shown) == 0 {
		kinds[map[int64]string{impl.ErrGap: "in a gap", impl.ErrRange: "in none"}[impl.Resolve(table, wall, 0, 0).Code]]++
		if impl.Resolve(table, wall, 1, 0).Code == impl.ErrRange || impl.Resolve(table, wall, 2, 0).Code == impl.ErrRange {
			kinds["beyond an end"]++
		}
	}
}

func (k shownKinds) hasAll(t *testing.T, least int, kinds ...string) {
	t.Helper()
	for _, kind := range kinds {
		if k[kind] < least {
			t.Errorf("too few wall times are %s: %v", kind, k)
		}
	}
}

// Promise 7: an instant is among those at which the clock shows what it shows then.
func isAmongItsOwn(t *testing.T, table impl.Table, instant int64) {
	t.Helper()
	wall := instant + slowOffset(table, instant)
	if wall < impl.MinTime || wall > impl.MaxTime {
		isWall(t, table, instant, 0, impl.ErrRange)
		return
	}
	isWall(t, table, instant, wall, impl.OK)
	if got := impl.InstantsOf(table, wall); !slices.Contains(got, instant) {
		t.Errorf("%d is shown at %d, but got just %v; of\n%s", wall, instant, got, clockText(table))
	}
}

// smallClock has Turns and Offsets so near each other that each second may be gone through.
func (c chance) smallClock(base int64) impl.Table {
	instants := []int64{}
	for range c.from(0, 8) {
		instants = append(instants, base+c.from(0, 40))
	}
	slices.Sort(instants)
	turns := []at{}
	for _, instant := range slices.Compact(instants) {
		if instant > impl.MinTime && instant <= impl.MaxTime {
			turns = append(turns, at{instant, c.from(-12, 12)})
		}
	}
	return clockOf(c.from(-12, 12), turns...)
}

// Promises 7 and 8, of all wall times near the Turns: the clock is asked at each second what it shows.
func TestClocksSecondBySecond(t *testing.T) {
	c := newChance(71)
	kinds := shownKinds{}
	for range 4000 {
		base := pick(c, int64(0), impl.MinTime, impl.MinTime+3, impl.MaxTime-20, impl.MaxTime-40, -1000000)
		table := c.smallClock(base)
		shown := map[int64][]int64{}
		for instant := max(impl.MinTime, base-40); instant <= min(impl.MaxTime, base+80); instant++ {
			isAmongItsOwn(t, table, instant)
			wall := instant + slowOffset(table, instant)
			shown[wall] = append(shown[wall], instant)
		}
		for wall := max(impl.MinTime, base-20); wall <= min(impl.MaxTime, base+60); wall++ {
			isClock(t, table, wall, shown[wall], kinds)
		}
		if t.Failed() {
			return
		}
	}
	kinds.hasAll(t, 500, "once", "twice", "more often", "in a gap", "in none", "beyond an end")
}

// nearTurns are wall times at and near all that may begin or end one that is shown, or a gap.
func nearTurns(c chance, table impl.Table) []int64 {
	walls := []int64{impl.MinTime, impl.MaxTime, c.from(impl.MinTime, impl.MaxTime)}
	ahead := table.Turns[0].Offset
	for _, turn := range table.Turns {
		for _, offset := range []int64{ahead, turn.Offset} {
			for near := int64(-1); near <= 1; near++ {
				walls = append(walls, turn.At+offset+near)
			}
		}
		walls = append(walls, turn.At+c.from(-210000, 210000))
		ahead = turn.Offset
	}
	return slices.DeleteFunc(walls, func(wall int64) bool { return wall < impl.MinTime || wall > impl.MaxTime })
}

func isClockNearTurns(t *testing.T, c chance, table impl.Table, kinds shownKinds) {
	t.Helper()
	for _, wall := range nearTurns(c, table) {
		isClock(t, table, wall, slowShown(table, wall), kinds)
		isAmongItsOwn(t, table, wall)
	}
	for _, turn := range table.Turns {
		for _, instant := range []int64{turn.At - 1, turn.At, turn.At + 1} {
			if instant >= impl.MinTime && instant <= impl.MaxTime {
				isAmongItsOwn(t, table, instant)
			}
		}
	}
}

// wideClock has Offsets as far as they go, and stretches that are shorter.
func (c chance) wideClock() impl.Table {
	base := pick(c, int64(0), impl.MinTime, impl.MaxTime-500000, c.from(impl.MinTime, impl.MaxTime))
	instants := []int64{}
	for range c.from(0, 20) {
		instants = append(instants, base+c.from(0, 500000))
	}
	slices.Sort(instants)
	turns := []at{}
	for _, instant := range slices.Compact(instants) {
		if instant > impl.MinTime && instant <= impl.MaxTime {
			turns = append(turns, at{instant, pick(c, c.from(-100000, 100000), c.from(-3600, 3600))})
		}
	}
	return clockOf(c.from(-100000, 100000), turns...)
}

// Promises 7 and 8, of Tables of all right Offsets.
func TestClocksOfWideOffsets(t *testing.T) {
	c := newChance(72)
	kinds := shownKinds{}
	for range 1500 {
		isClockNearTurns(t, c, c.wideClock(), kinds)
		if t.Failed() {
			return
		}
	}
	kinds.hasAll(t, 300, "once", "twice", "more often", "in a gap", "in none", "beyond an end")
}

// Promises 7 and 8, of the tables of Releases.
func TestClocksOfReleases(t *testing.T) {
	c := newChance(73)
	kinds := shownKinds{}
	for range 150 {
		r := c.clockRelease(c.clockRules(5))
		out := impl.TableOf(r, "Z0")
		if out.Code != impl.OK || len(out.Table.Turns) > 120 {
			continue
		}
		isClockNearTurns(t, c, out.Table, kinds)
		if t.Failed() {
			return
		}
	}
	kinds.hasAll(t, 50, "once", "twice", "in a gap", "in none")
}
