package tests

import (
	"math"
	"testing"
	"time"

	"loop.example/g00364/impl"
)

const (
	firstDay = -719162
	lastDay  = 2932896
	noDay    = -1000000
)

// extremes are numbers as great and as small as their type holds, and near these.
var extremes = []int64{math.MinInt64, math.MinInt64 + 1, math.MinInt32, math.MaxInt32, math.MaxInt64 - 1, math.MaxInt64}

// isNum holds a number against the one asked for.
func isNum(t *testing.T, what string, got int64, want int64) {
	t.Helper()
	if got != want {
		t.Errorf("%s: got %d, want %d", what, got, want)
	}
}

func dayOf(year int64, month int64, day int64) int64 {
	return time.Date(int(year), time.Month(month), int(day), 0, 0, 0, 0, time.UTC).Unix() / 86400
}

// Promise 1: the calendar of the library is asked for each day of the years 1 to 9999.
func TestEachDayComesBackFromItsDate(t *testing.T) {
	ahead := impl.Date{}
	for days := int64(firstDay); days <= lastDay; days++ {
		at := time.Unix(days*86400, 0).UTC()
		year, month, day := at.Date()
		want := impl.Date{Year: int64(year), Month: int64(month), Day: int64(day)}
		got := impl.DateOf(days)
		if got != want || !impl.DateRight(got) {
			t.Fatalf("date of %d: got %v, want %v", days, got, want)
		}
		if back := impl.DaysOf(got); back != days {
			t.Fatalf("days of %v: got %d, want %d", got, back, days)
		}
		if got := impl.Weekday(days); got != int64(at.Weekday()) {
			t.Fatalf("weekday of %d: got %d, want %d", days, got, at.Weekday())
		}
		if days > firstDay && got != nextDate(ahead) {
			t.Fatalf("behind %v comes %v", ahead, got)
		}
		ahead = got
	}
}

// nextDate goes on by the lengths of months that the program tells.
func nextDate(d impl.Date) impl.Date {
	if d.Day < impl.MonthDays(d.Year, d.Month) {
		return impl.Date{Year: d.Year, Month: d.Month, Day: d.Day + 1}
	}
	if d.Month < 12 {
		return impl.Date{Year: d.Year, Month: d.Month + 1, Day: 1}
	}
	return impl.Date{Year: d.Year + 1, Month: 1, Day: 1}
}

func TestWeekdaysGoOnOneByOne(t *testing.T) {
	isNum(t, "the first day is a Monday", impl.Weekday(firstDay), 1)
	isNum(t, "the last day is a Friday", impl.Weekday(lastDay), 5)
	isNum(t, "1970-01-01 is a Thursday", impl.Weekday(0), 4)
	for days := int64(firstDay); days < lastDay; days++ {
		if got, want := impl.Weekday(days+1), (impl.Weekday(days)+1)%7; got != want {
			t.Fatalf("weekday of %d: got %d, want %d", days+1, got, want)
		}
	}
}

func TestDaysAtTheLimits(t *testing.T) {
	isNum(t, "the first date", impl.DaysOf(impl.Date{Year: 1, Month: 1, Day: 1}), firstDay)
	isNum(t, "the last date", impl.DaysOf(impl.Date{Year: 9999, Month: 12, Day: 31}), lastDay)
	dates := map[int64]impl.Date{
		firstDay:     {Year: 1, Month: 1, Day: 1},
		firstDay + 1: {Year: 1, Month: 1, Day: 2},
		-1:           {Year: 1969, Month: 12, Day: 31},
		0:            {Year: 1970, Month: 1, Day: 1},
		11016:        {Year: 2000, Month: 2, Day: 29},
		11017:        {Year: 2000, Month: 3, Day: 1},
		lastDay - 1:  {Year: 9999, Month: 12, Day: 30},
		lastDay:      {Year: 9999, Month: 12, Day: 31},
	}
	for days, want := range dates {
		if got := impl.DateOf(days); got != want {
			t.Errorf("date of %d: got %v, want %v", days, got, want)
		}
		isNum(t, "days of a date", impl.DaysOf(want), days)
	}
}

func TestDaysOutsideTheLimits(t *testing.T) {
	outside := append([]int64{firstDay - 1, firstDay - 2, firstDay - 7, lastDay + 1, lastDay + 2, lastDay + 7, noDay}, extremes...)
	for _, days := range outside {
		if got := impl.DateOf(days); got != (impl.Date{}) {
			t.Errorf("date of %d: got %v, want the zero one", days, got)
		}
		if got := impl.Weekday(days); got != -1 {
			t.Errorf("weekday of %d: got %d, want -1", days, got)
		}
	}
}

func TestDatesThatAreNone(t *testing.T) {
	none := []impl.Date{
		{},
		{Year: 2000, Month: 1},
		{Year: 2000, Day: 1},
		{Month: 1, Day: 1},
		{Year: 0, Month: 12, Day: 31},
		{Year: -1, Month: 1, Day: 1},
		{Year: -4, Month: 2, Day: 29},
		{Year: 10000, Month: 1, Day: 1},
		{Year: 2000, Month: 0, Day: 1},
		{Year: 2000, Month: 13, Day: 1},
		{Year: 2000, Month: -1, Day: 1},
		{Year: 2000, Month: 1, Day: 0},
		{Year: 2000, Month: 1, Day: -1},
		{Year: 2000, Month: 1, Day: 32},
		{Year: 2000, Month: 2, Day: 30},
		{Year: 2000, Month: 4, Day: 31},
		{Year: 2001, Month: 2, Day: 29},
		{Year: 1900, Month: 2, Day: 29},
		{Year: 2100, Month: 2, Day: 29},
		{Year: 9999, Month: 2, Day: 29},
	}
	for _, n := range extremes {
		none = append(none, impl.Date{Year: n, Month: 1, Day: 1}, impl.Date{Year: 2000, Month: n, Day: 1}, impl.Date{Year: 2000, Month: 1, Day: n}, impl.Date{Year: n, Month: n, Day: n})
	}
	for _, d := range none {
		if impl.DateRight(d) {
			t.Errorf("%v is told to be right", d)
		}
		if got := impl.DaysOf(d); got != 0 {
			t.Errorf("days of %v: got %d, want 0", d, got)
		}
	}
}

func TestDatesThatAreRight(t *testing.T) {
	right := []impl.Date{
		{Year: 1, Month: 1, Day: 1},
		{Year: 4, Month: 2, Day: 29},
		{Year: 400, Month: 2, Day: 29},
		{Year: 1970, Month: 1, Day: 1},
		{Year: 2000, Month: 2, Day: 29},
		{Year: 2024, Month: 2, Day: 29},
		{Year: 9996, Month: 2, Day: 29},
		{Year: 9999, Month: 12, Day: 31},
	}
	for _, d := range right {
		if !impl.DateRight(d) {
			t.Errorf("%v is told not to be right", d)
		}
		isNum(t, "days of a right date", impl.DaysOf(d), dayOf(d.Year, d.Month, d.Day))
	}
}

func TestMonthDays(t *testing.T) {
	for year := int64(1); year <= 9999; year++ {
		for month := int64(1); month <= 12; month++ {
			want := int64(time.Date(int(year), time.Month(month)+1, 0, 0, 0, 0, 0, time.UTC).Day())
			if got := impl.MonthDays(year, month); got != want {
				t.Fatalf("days of %d-%d: got %d, want %d", year, month, got, want)
			}
		}
	}
}

func TestMonthDaysOfLeapYears(t *testing.T) {
	lengths := map[int64]int64{1: 28, 4: 29, 100: 28, 400: 29, 1900: 28, 1904: 29, 2000: 29, 2001: 28, 2100: 28, 9996: 29, 9999: 28}
	for year, want := range lengths {
		if got := impl.MonthDays(year, 2); got != want {
			t.Errorf("February of %d: got %d, want %d", year, got, want)
		}
	}
}

func TestMonthDaysOutsideTheLimits(t *testing.T) {
	for _, n := range append([]int64{0, -1, -4, -400}, extremes...) {
		isNum(t, "a year that is none", impl.MonthDays(n, 1), 0)
		isNum(t, "a month that is none", impl.MonthDays(2000, n), 0)
		isNum(t, "neither", impl.MonthDays(n, n), 0)
	}
	isNum(t, "the year 10000", impl.MonthDays(10000, 1), 0)
	isNum(t, "a leap year behind the last one", impl.MonthDays(10400, 2), 0)
	isNum(t, "the month 13", impl.MonthDays(2000, 13), 0)
}
