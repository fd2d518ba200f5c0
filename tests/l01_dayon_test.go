package tests

import (
	"fmt"
	"strings"
	"testing"
	"time"

	"loop.example/g00364/impl"
)

var weekdays = []string{"Sun", "Mon", "Tue", "Wed", "Thu", "Fri", "Sat"}

var someYears = []int64{1, 2, 4, 100, 400, 1582, 1900, 1969, 1970, 1999, 2000, 2001, 2024, 2100, 9996, 9998, 9999}

// searched goes from a day on, step by step, until the weekday is there.
func searched(days int64, weekday int, step int64) int64 {
	for int(time.Unix(days*86400, 0).UTC().Weekday()) != weekday {
		days += step
	}
	return days
}

func isDayOn(t *testing.T, year int64, month int64, on string, want int64) {
	t.Helper()
	if got := impl.DayOn(year, month, on); got != want {
		t.Errorf("the day of %d-%d that %q tells: got %d, want %d", year, month, on, got, want)
	}
}

func eachMonth(f func(year int64, month int64)) {
	for _, year := range someYears {
		for month := int64(1); month <= 12; month++ {
			f(year, month)
		}
	}
}

// digitTexts are all texts of one and two digits that tell a number.
func digitTexts(n int64) []string {
	two := fmt.Sprintf("%02d", n)
	if n > 9 {
		return []string{two}
	}
	return []string{two, fmt.Sprint(n)}
}

// Promise 2, with each form, each weekday and each number of one and two digits.
func TestDayOnDigits(t *testing.T) {
	eachMonth(func(year int64, month int64) {
		for n := int64(0); n <= 99; n++ {
			want := int64(noDay)
			if n >= 1 && n <= impl.MonthDays(year, month) {
				want = dayOf(year, month, n)
			}
			for _, text := range digitTexts(n) {
				isDayOn(t, year, month, text, want)
			}
		}
	})
}

func TestDayOnLast(t *testing.T) {
	eachMonth(func(year int64, month int64) {
		for weekday, name := range weekdays {
			last := dayOf(year, month, impl.MonthDays(year, month))
			isDayOn(t, year, month, "last"+name, searched(last, weekday, -1))
		}
	})
}

func TestDayOnFromAndUpTo(t *testing.T) {
	eachMonth(func(year int64, month int64) {
		for weekday, name := range weekdays {
			for n := int64(0); n <= 99; n++ {
				from, upTo := int64(noDay), int64(noDay)
				if n >= 1 && n <= impl.MonthDays(year, month) {
					from = searched(dayOf(year, month, n), weekday, 1)
					upTo = searched(dayOf(year, month, n), weekday, -1)
				}
				for _, text := range digitTexts(n) {
					isDayOn(t, year, month, name+">="+text, from)
					isDayOn(t, year, month, name+"<="+text, upTo)
				}
			}
		}
	})
}

func TestDayOnIsOfItsWeekdayInItsWeek(t *testing.T) {
	for day := int64(1); day <= 31; day++ {
		named := impl.DayOn(2024, 5, fmt.Sprint(day))
		for weekday, name := range weekdays {
			from := impl.DayOn(2024, 5, fmt.Sprint(name, ">=", day))
			upTo := impl.DayOn(2024, 5, fmt.Sprint(name, "<=", day))
			isNum(t, "weekday from a day on", impl.Weekday(from), int64(weekday))
			isNum(t, "weekday up to a day", impl.Weekday(upTo), int64(weekday))
			if from < named || from > named+6 || upTo > named || upTo < named-6 {
				t.Errorf("%s of %d: from %d, up to %d: not in the week", name, named, from, upTo)
			}
		}
	}
}

func TestDayOnInTheMonthBehindOrAhead(t *testing.T) {
	isDayOn(t, 2024, 3, "Mon>=31", dayOf(2024, 4, 1))
	isDayOn(t, 2024, 3, "Thu<=1", dayOf(2024, 2, 29))
	isDayOn(t, 2024, 12, "Fri>=28", dayOf(2025, 1, 3))
	isDayOn(t, 2024, 1, "Sun<=1", dayOf(2023, 12, 31))
	isDayOn(t, 2024, 3, "Sun>=31", dayOf(2024, 3, 31))
	isDayOn(t, 2024, 3, "Sun<=31", dayOf(2024, 3, 31))
	isDayOn(t, 2024, 3, "Fri>=1", dayOf(2024, 3, 1))
	isDayOn(t, 2024, 3, "Fri<=1", dayOf(2024, 3, 1))
}

// The first day of all is a Monday, the last one a Friday.
func TestDayOnAtTheLimits(t *testing.T) {
	isDayOn(t, 1, 1, "1", firstDay)
	isDayOn(t, 1, 1, "Mon<=1", firstDay)
	isDayOn(t, 1, 1, "Mon>=01", firstDay)
	isDayOn(t, 1, 1, "Tue>=1", firstDay+1)
	isDayOn(t, 1, 1, "Sun<=1", firstDay-1)
	isDayOn(t, 1, 1, "Tue<=1", firstDay-6)
	isDayOn(t, 9999, 12, "31", lastDay)
	isDayOn(t, 9999, 12, "lastFri", lastDay)
	isDayOn(t, 9999, 12, "lastSat", lastDay-6)
	isDayOn(t, 9999, 12, "Fri>=31", lastDay)
	isDayOn(t, 9999, 12, "Sat>=31", lastDay+1)
	isDayOn(t, 9999, 12, "Thu>=31", lastDay+6)
}

func TestDayOnOfTextsThatTellNone(t *testing.T) {
	none := []string{
		"", " ", "-", "0", "00", "32", "001", "031", "100", "1 ", " 1", "+1", "-1", "1a", "a1", "１",
		"last", "las", "lastsun", "lastSUN", "lastSunday", "lastSu", "last Sun", "LastSun", "lastSun ", " lastSun", "lastlastSun", "lastMonTue", "lastunM",
		"Sun", "Sun>", "Sun<", "Sun>=", "Sun<=", ">=1", "<=1", ">=", "=", "sun>=1", "SUN>=1", "Su>=1", "Sund>=1", "Sunday>=1",
		"Sun>1", "Sun<1", "Sun=1", "Sun==1", "Sun=>1", "Sun=<1", "Sun>= 1", "Sun >=1", " Sun>=1", "Sun>=1 ", "Sun>==1",
		"Sun>=0", "Sun>=00", "Sun<=0", "Sun>=32", "Sun<=32", "Sun>=99", "Sun>=001", "Sun>=100", "Sun<=001", "Sun>=-1", "Sun>=+1", "Sun>=a", "Sun>=1a",
		"Sun>=1>=1", "Sun>=1<=2", "Sun<=2>=1", "Sun<=>=1", "lastSun>=1", "lastSun<=1", "Sun>=lastSun", "unM>=1", "nMo<=1", "1>=Sun",
		"Sun>=1\x00", "\x00", "1\n", "Sun>=\xff", "\xff\xfe",
	}
	for _, on := range none {
		isDayOn(t, 2024, 3, on, noDay)
	}
	for _, on := range []string{"31", "Sun>=31", "Sun<=31"} {
		isDayOn(t, 2024, 4, on, noDay)
	}
	for _, on := range []string{"29", "Sun>=29", "Sun<=29"} {
		isDayOn(t, 2023, 2, on, noDay)
		isDayOn(t, 1900, 2, on, noDay)
	}
}

func TestDayOnOutsideTheLimits(t *testing.T) {
	for _, on := range []string{"1", "lastSun", "Sun>=1", "Sun<=1", "none"} {
		for _, n := range append([]int64{0, -1, -4}, extremes...) {
			isDayOn(t, n, 1, on, noDay)
			isDayOn(t, 2000, n, on, noDay)
			isDayOn(t, n, n, on, noDay)
		}
		isDayOn(t, 10000, 1, on, noDay)
		isDayOn(t, 2000, 13, on, noDay)
	}
}

// A text that is too long is refused ahead of all else, with the zero answer.
func TestDayOnOfLongTexts(t *testing.T) {
	long := strings.Repeat("1", impl.MaxBytes)
	isDayOn(t, 2024, 3, long, noDay)
	isDayOn(t, 2024, 3, long+"1", 0)
	isDayOn(t, 0, 13, long, noDay)
	isDayOn(t, 0, 13, long+"1", 0)
	digits := "Sun>=" + strings.Repeat("0", impl.MaxBytes-6) + "1"
	isDayOn(t, 2024, 3, digits, noDay)
	isDayOn(t, 2024, 3, digits+"1", 0)
}
