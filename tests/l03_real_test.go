package tests

import (
	"testing"
	"time"
	_ "time/tzdata"

	"loop.example/g00364/impl"
)

// isRealClock holds a Zone against the library's clocks, in years that are past, so that no new rules change them.
func isRealClock(t *testing.T, r impl.Release, name string, place string, from string, to string) {
	t.Helper()
	location, err := time.LoadLocation(place)
	if err != nil {
		t.Fatal(err)
	}
	out := impl.TableOf(r, name)
	if out.Code != impl.OK {
		t.Fatalf("%s: got the code %d", name, out.Code)
	}
	times := []int64{}
	begin, end := instant(t, from), instant(t, to)
	for at := begin; at < end; at += 86400 {
		times = append(times, at)
	}
	for _, turn := range out.Table.Turns {
		if turn.At > begin && turn.At < end {
			times = append(times, turn.At-1, turn.At)
		}
	}
	for _, at := range times {
		turn := impl.TurnAt(out.Table, at)
		abbr, offset := time.Unix(at, 0).In(location).Zone()
		if turn.Abbr != abbr || turn.Offset != int64(offset) {
			t.Fatalf("%s at %s: got %+v, want %s and %d", name, time.Unix(at, 0).UTC(), turn, abbr, offset)
		}
	}
}

// realRelease has rules of clocks that there are.
func realRelease(t *testing.T) impl.Release {
	return readRelease(t,
		"Rule EU 1981 max - Mar lastSun 1:00u 1:00 S", "Rule EU 1981 1995 - Sep lastSun 1:00u 0 -", "Rule EU 1996 max - Oct lastSun 1:00u 0 -",
		"Rule Eire 1996 max - Mar lastSun 1:00u 0 -", "Rule Eire 1996 max - Oct lastSun 1:00u -1:00 -",
		"Rule US 1967 2006 - Oct lastSun 2:00 0 S", "Rule US 1967 1973 - Apr lastSun 2:00 1:00 D", "Rule US 1974 only - Jan 6 2:00 1:00 D", "Rule US 1975 only - Feb lastSun 2:00 1:00 D",
		"Rule US 1976 1986 - Apr lastSun 2:00 1:00 D", "Rule US 1987 2006 - Apr Sun>=1 2:00 1:00 D", "Rule US 2007 max - Mar Sun>=8 2:00 1:00 D", "Rule US 2007 max - Nov Sun>=1 2:00 0 S",
		"Rule LH 2008 max - Apr Sun>=1 2:00 0 -", "Rule LH 2008 max - Oct Sun>=1 2:00 0:30 -",
		"Rule AT 2008 max - Apr Sun>=1 2:00s 0 S", "Rule AT 2001 max - Oct Sun>=1 2:00s 1:00 D",
		"Zone Paris 1:00 EU CE%sT", "Zone Dublin 1:00 Eire IST/GMT", "Zone New_York -5:00 US E%sT", "Zone Lord_Howe 10:30 LH +1030/+11", "Zone Hobart 10:00 AT AE%sT",
		"Zone Lisbon 1:00 EU CE%sT 1996 Mar 31 1:00u", "0:00 EU WE%sT",
		"Zone Istanbul 2:00 EU EE%sT 2011 Mar 27 1:00u", "2:00 - EET 2011 Mar 28 1:00u", "2:00 EU EE%sT 2014 Mar 30 1:00u", "2:00 - EET 2014 Mar 31 1:00u", "2:00 EU EE%sT 2015 Oct 25 1:00u", "2:00 1:00 EEST 2015 Nov 8 1:00u", "2:00 EU EE%sT 2016 Sep 7", "3:00 - +03",
	)
}

func TestRealClocks(t *testing.T) {
	r := realRelease(t)
	isRealClock(t, r, "Paris", "Europe/Paris", "1996-01-01 00:00:00", "2025-01-01 00:00:00")
	isRealClock(t, r, "Dublin", "Europe/Dublin", "1997-01-01 00:00:00", "2025-01-01 00:00:00")
	isRealClock(t, r, "New_York", "America/New_York", "1967-05-01 00:00:00", "2025-01-01 00:00:00")
	isRealClock(t, r, "Lord_Howe", "Australia/Lord_Howe", "2008-05-01 00:00:00", "2025-01-01 00:00:00")
	isRealClock(t, r, "Hobart", "Australia/Hobart", "2008-05-01 00:00:00", "2025-01-01 00:00:00")
	isRealClock(t, r, "Lisbon", "Europe/Lisbon", "1996-01-01 00:00:00", "2025-01-01 00:00:00")
	isRealClock(t, r, "Istanbul", "Europe/Istanbul", "2007-01-01 00:00:00", "2025-01-01 00:00:00")
}
