package tests

import (
	"fmt"
	"slices"
	"testing"

	"loop.example/g00364/impl"
)

// at is a Turn's instant and its Offset.
type at struct {
	at     int64
	offset int64
}

// clockOf is a Table of a first Offset, and of Turns behind that.
func clockOf(first int64, turns ...at) impl.Table {
	table := impl.Table{Turns: []impl.Turn{{At: impl.MinTime, Offset: first}}}
	for _, turn := range turns {
		table.Turns = append(table.Turns, impl.Turn{At: turn.at, Offset: turn.offset})
	}
	return table
}

// clockText writes a Table for those that are to be read.
func clockText(table impl.Table) string {
	text := ""
	for _, turn := range table.Turns {
		text += fmt.Sprintf("%d: %d\n", turn.At, turn.Offset)
	}
	return text
}

func isWall(t *testing.T, table impl.Table, instant int64, want int64, code int64) {
	t.Helper()
	if got := impl.WallOf(table, instant); got != (impl.NumOut{N: want, Code: code}) {
		t.Errorf("the clock at %d: got %+v, want %d and the code %d; of\n%s", instant, got, want, code, clockText(table))
	}
}

func isInstants(t *testing.T, table impl.Table, wall int64, want ...int64) {
	t.Helper()
	if got := impl.InstantsOf(table, wall); !slices.Equal(got, want) {
		t.Errorf("when %d is shown: got %v, want %v; of\n%s", wall, got, want, clockText(table))
	}
}

func TestWhatTheClockShowsNearTurns(t *testing.T) {
	table := clockOf(561, at{-1000, 3600}, at{1000, 7200}, at{1001, 3600}, at{1002, -100000}, at{5000, 100000})
	for instant, want := range map[int64]int64{
		-1001: -440, -1000: 2600, -999: 2601, 0: 3600, 999: 4599, 1000: 8200, 1001: 4601, 1002: -98998, 1003: -98997, 4999: -95001, 5000: 105000, 5001: 105001,
	} {
		isWall(t, table, instant, want, impl.OK)
	}
	isWall(t, table, impl.MinTime, impl.MinTime+561, impl.OK)
	isWall(t, table, impl.MaxTime-100000, impl.MaxTime, impl.OK)
}

func TestWhatTheClockShowsByRules(t *testing.T) {
	r := readRelease(t, "Rule E 1980 max - Mar lastSun 1:00u 1:00 S", "Rule E 1980 max - Oct lastSun 1:00u 0 -", "Zone P 1:00 E CE%sT")
	table := impl.TableOf(r, "P").Table
	for _, row := range [][2]string{
		{"2024-03-31 00:59:59", "2024-03-31 01:59:59"}, {"2024-03-31 01:00:00", "2024-03-31 03:00:00"}, {"2024-03-31 01:00:01", "2024-03-31 03:00:01"},
		{"2024-10-27 00:59:59", "2024-10-27 02:59:59"}, {"2024-10-27 01:00:00", "2024-10-27 02:00:00"}, {"2024-10-27 01:00:01", "2024-10-27 02:00:01"},
		{"1975-07-01 00:00:00", "1975-07-01 01:00:00"}, {"2037-07-01 00:00:00", "2037-07-01 02:00:00"}, {"2038-07-01 00:00:00", "2038-07-01 01:00:00"},
		{"0001-01-01 00:00:00", "0001-01-01 01:00:00"}, {"9999-12-31 22:59:59", "9999-12-31 23:59:59"},
	} {
		isWall(t, table, instant(t, row[0]), instant(t, row[1]), impl.OK)
	}
	isWall(t, table, instant(t, "9999-12-31 23:00:00"), 0, impl.ErrRange)
}

func TestClocksAtBothEndsOfTime(t *testing.T) {
	for _, offset := range []int64{0, 1, 3600, 99999, 100000} {
		isWall(t, clockOf(offset), impl.MinTime, impl.MinTime+offset, impl.OK)
		isWall(t, clockOf(offset), impl.MaxTime-offset, impl.MaxTime, impl.OK)
		isWall(t, clockOf(-offset), impl.MinTime+offset, impl.MinTime, impl.OK)
		isWall(t, clockOf(-offset), impl.MaxTime, impl.MaxTime-offset, impl.OK)
		if offset > 0 {
			isWall(t, clockOf(offset), impl.MaxTime-offset+1, 0, impl.ErrRange)
			isWall(t, clockOf(offset), impl.MaxTime, 0, impl.ErrRange)
			isWall(t, clockOf(-offset), impl.MinTime+offset-1, 0, impl.ErrRange)
			isWall(t, clockOf(-offset), impl.MinTime, 0, impl.ErrRange)
		}
		// The wall time would be right, but the instant is none.
		isWall(t, clockOf(offset), impl.MinTime-1, 0, impl.ErrForm)
		isWall(t, clockOf(-offset), impl.MaxTime+1, 0, impl.ErrForm)
	}
	last := clockOf(-5, at{impl.MinTime + 1, 5}, at{impl.MaxTime, 7})
	isWall(t, last, impl.MinTime, 0, impl.ErrRange)
	isWall(t, last, impl.MinTime+1, impl.MinTime+6, impl.OK)
	isWall(t, last, impl.MaxTime-5, impl.MaxTime, impl.OK)
	isWall(t, last, impl.MaxTime-1, 0, impl.ErrRange)
	isWall(t, last, impl.MaxTime, 0, impl.ErrRange)
	last.Turns[2].Offset = 0
	isWall(t, last, impl.MaxTime, impl.MaxTime, impl.OK)
	last.Turns[2].Offset = -100000
	isWall(t, last, impl.MaxTime, impl.MaxTime-100000, impl.OK)
}

// wrongTables are some that are not right, each for another cause.
func wrongTables() []impl.Table {
	return []impl.Table{
		{},
		{Turns: []impl.Turn{{At: 0}}},
		{Turns: []impl.Turn{{At: impl.MinTime - 1}}},
		clockOf(100001),
		clockOf(0, at{5, -100001}),
		clockOf(0, at{5, 0}, at{5, 0}),
		clockOf(0, at{5, 0}, at{4, 0}),
		clockOf(0, at{impl.MaxTime + 1, 0}),
		{Turns: []impl.Turn{{At: impl.MinTime, Save: 7201}}},
		{Turns: []impl.Turn{{At: impl.MinTime, Abbr: "123456789012345678901"}}},
		manyTurns(601),
	}
}

func TestClocksOfWrongThings(t *testing.T) {
	times := append([]int64{0, 1, 4, 5, 6, impl.MinTime, impl.MaxTime, impl.MinTime - 1, impl.MaxTime + 1}, extremes...)
	for _, table := range wrongTables() {
		for _, time := range times {
			isWall(t, table, time, 0, impl.ErrForm)
			isInstants(t, table, time)
		}
	}
	for _, time := range append([]int64{impl.MinTime - 1, impl.MaxTime + 1, impl.MinTime - 100000, impl.MaxTime + 100000}, extremes...) {
		if time >= impl.MinTime && time <= impl.MaxTime {
			continue
		}
		for _, offset := range []int64{0, 1, -1, 100000, -100000} {
			isWall(t, clockOf(offset), time, 0, impl.ErrForm)
			isInstants(t, clockOf(offset), time)
		}
	}
}

func TestWhenTheClockShowsATime(t *testing.T) {
	// A gap at 1000, a fold at 2000, and one into which the clock falls thrice.
	table := clockOf(0, at{1000, 100}, at{2000, 0}, at{3000, 50}, at{3020, 0}, at{3040, 50}, at{9000, -10})
	isInstants(t, table, 0, 0)
	isInstants(t, table, 999, 999)
	isInstants(t, table, 1000)
	isInstants(t, table, 1099)
	isInstants(t, table, 1100, 1000)
	isInstants(t, table, 1999, 1899)
	isInstants(t, table, 2000, 1900, 2000)
	isInstants(t, table, 2099, 1999, 2099)
	isInstants(t, table, 2100, 2100)
	isInstants(t, table, 2999, 2999)
	isInstants(t, table, 3000)
	isInstants(t, table, 3019)
	isInstants(t, table, 3020, 3020)
	isInstants(t, table, 3039, 3039)
	isInstants(t, table, 3040)
	isInstants(t, table, 3049)
	isInstants(t, table, 3050, 3000)
	isInstants(t, table, 3069, 3019)
	isInstants(t, table, 3070)
	isInstants(t, table, 3089)
	isInstants(t, table, 3090, 3040)
	isInstants(t, table, 8989, 8939)
	isInstants(t, table, 8990, 8940, 9000)
	isInstants(t, table, 9049, 8999, 9059)
	isInstants(t, table, 9050, 9060)
}

func TestTimesThatAreShownOften(t *testing.T) {
	table := clockOf(30, at{100, 20}, at{105, 10}, at{110, 0})
	isInstants(t, table, 109, 79)
	isInstants(t, table, 110, 80, 110)
	isInstants(t, table, 114, 84, 114)
	isInstants(t, table, 115, 85, 105, 115)
	isInstants(t, table, 119, 89, 109, 119)
	isInstants(t, table, 120, 90, 100, 120)
	isInstants(t, table, 124, 94, 104, 124)
	isInstants(t, table, 125, 95, 125)
	isInstants(t, table, 130, 130)
	// A Turn may change nothing but the abbreviation.
	isInstants(t, clockOf(30, at{100, 20}, at{102, 20}, at{105, 20}), 122, 92, 102)
	// The clock falls back ten seconds each ten seconds: it shows these alone.
	falling := impl.Table{}
	want := make([][]int64, 10)
	for i := range int64(impl.MaxTurns) {
		falling.Turns = append(falling.Turns, impl.Turn{At: i * 10, Offset: -i * 10})
		for wall := range want {
			want[wall] = append(want[wall], int64(wall)+i*10)
		}
	}
	falling.Turns[0].At = impl.MinTime
	for wall, instants := range want {
		isInstants(t, falling, int64(wall), instants...)
	}
	isInstants(t, falling, -1, -1)
	isInstants(t, falling, 10, 6000)
}

func TestTimesInTheFirstAndInTheLastStretch(t *testing.T) {
	for _, offset := range []int64{0, 1, 3600, 100000} {
		isInstants(t, clockOf(offset), impl.MinTime+offset, impl.MinTime)
		isInstants(t, clockOf(offset), impl.MaxTime, impl.MaxTime-offset)
		isInstants(t, clockOf(-offset), impl.MaxTime-offset, impl.MaxTime)
		isInstants(t, clockOf(-offset), impl.MinTime, impl.MinTime+offset)
		if offset > 0 {
			isInstants(t, clockOf(offset), impl.MinTime+offset-1)
			isInstants(t, clockOf(offset), impl.MinTime)
			isInstants(t, clockOf(-offset), impl.MaxTime-offset+1)
			isInstants(t, clockOf(-offset), impl.MaxTime)
		}
	}
	// The last stretch has one instant, and so has the first.
	table := clockOf(-5, at{impl.MinTime + 1, 5}, at{impl.MaxTime, -7})
	isInstants(t, table, impl.MinTime)
	isInstants(t, table, impl.MinTime+5)
	isInstants(t, table, impl.MinTime+6, impl.MinTime+1)
	isInstants(t, table, impl.MaxTime-7, impl.MaxTime-12, impl.MaxTime)
	isInstants(t, table, impl.MaxTime, impl.MaxTime-5)
	table = clockOf(10, at{impl.MinTime + 1, 9}, at{impl.MaxTime, 0})
	isInstants(t, table, impl.MinTime+10, impl.MinTime, impl.MinTime+1)
	isInstants(t, table, impl.MaxTime, impl.MaxTime-9, impl.MaxTime)
}

// Stretches of one second, and offsets that turn by far more.
func TestStretchesThatAreShorterThanTheirTurn(t *testing.T) {
	table := clockOf(0, at{10, 100000}, at{11, -100000}, at{12, 100000}, at{13, 0})
	isInstants(t, table, 9, 9)
	isInstants(t, table, 10)
	isInstants(t, table, 12)
	isInstants(t, table, 13, 13)
	isInstants(t, table, 100009, 100009)
	isInstants(t, table, 100010, 10, 100010)
	isInstants(t, table, 100011, 100011)
	isInstants(t, table, 100012, 12, 100012)
	isInstants(t, table, 100013, 100013)
	isInstants(t, table, -99990, -99990)
	isInstants(t, table, -99989, -99989, 11)
	isInstants(t, table, -99988, -99988)
}

func TestInstantsAreNewMemory(t *testing.T) {
	table := clockOf(0, at{1000, -50}, at{2000, 7})
	first := impl.InstantsOf(table, 970)
	second := impl.InstantsOf(table, 970)
	first[0], first[1] = 1, 2
	_ = append(first[:1], 3)
	if !slices.Equal(second, []int64{970, 1020}) {
		t.Errorf("another answer has become %v", second)
	}
	isInstants(t, table, 970, 970, 1020)
	impl.WallOf(table, 5)
	impl.Resolve(table, 970, 1, 2)
	impl.Resolve(table, 1951, 1, 2)
	if want := clockOf(0, at{1000, -50}, at{2000, 7}); !slices.Equal(table.Turns, want.Turns) {
		t.Errorf("the Table has become %+v", table)
	}
}
