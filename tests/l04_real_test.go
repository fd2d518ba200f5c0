package tests

import (
	"testing"
	"time"

	"loop.example/g00364/impl"
)

// isRealWall holds what Resolve tells of a wall time against the library's clock, which tells one of the two instants
// of a gap or a fold, and does not say which.
func isRealWall(t *testing.T, table impl.Table, wall int64, location *time.Location) {
	t.Helper()
	date := time.Unix(wall, 0).UTC()
	want := time.Date(date.Year(), date.Month(), date.Day(), date.Hour(), date.Minute(), date.Second(), 0, location).Unix()
	first, last := impl.Resolve(table, wall, 1, 1), impl.Resolve(table, wall, 2, 2)
	if first.Code != impl.OK || last.Code != impl.OK || first.N != want && last.N != want {
		t.Fatalf("%s in %s: got %+v and %+v, want %d", date, location, first, last, want)
	}
	once := impl.Resolve(table, wall, 0, 0)
	if once.Code == impl.OK && once != first || (once.Code == impl.OK) != (first == last) {
		t.Fatalf("%s in %s: got %+v, but also %+v and %+v", date, location, once, first, last)
	}
}

func TestRealWallTimes(t *testing.T) {
	r := realRelease(t)
	for name, place := range map[string]string{
		"Paris": "Europe/Paris", "Dublin": "Europe/Dublin", "New_York": "America/New_York", "Lord_Howe": "Australia/Lord_Howe", "Hobart": "Australia/Hobart", "Istanbul": "Europe/Istanbul",
	} {
		location, err := time.LoadLocation(place)
		if err != nil {
			t.Fatal(err)
		}
		table := impl.TableOf(r, name).Table
		// Each half hour, so that those of each gap and fold are met.
		for wall := instant(t, "2010-01-01 00:00:00"); wall < instant(t, "2024-12-31 00:00:00"); wall += 1800 {
			isRealWall(t, table, wall, location)
		}
	}
}
