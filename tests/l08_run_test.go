package tests

import (
	"fmt"
	"slices"
	"strings"
	"testing"

	"loop.example/g00364/impl"
)

// At noon by clocks on the wall, in a summer and in a winter.
const (
	deskRules  = "rules Zone P 1:00 - X;"
	deskSummer = "put 1 summer P 2030-07-01 12:00:00 0 0"
	deskWinter = "put 2 winter P 2030-01-10 12:00:00 0 0"
	deskFind   = "find 2030-01-01 00:00:00 2030-12-31 23:59:59"
)

// deskPair is a line, and what is told of it.
type deskPair struct {
	line string
	told string
}

// isToldOneByOne asks the same of the pairs' first lines, however many: these tell the beginning of what all tell (promise 15).
func isToldOneByOne(t *testing.T, pairs ...deskPair) {
	t.Helper()
	lines, told := []string{}, []string{}
	for _, p := range pairs {
		lines, told = append(lines, p.line), append(told, p.told)
		isDesk(t, lines, told...)
	}
}

// Each command of chapter 8, lines that are none, and lines that tell an error.
func TestCommandsOfADesk(t *testing.T) {
	isDesk(t, runLines, runTold...)
	for many := range runLines {
		isDesk(t, runLines[:many], runTold[:many]...)
	}
	for _, line := range wordLines() {
		word, _, _ := strings.Cut(line, " ")
		told := map[string]string{"put": "error 5", "drop": "error 5", "batch": "error 10", "at": "none", "find": "-", "asof": "error 4"}[word]
		isDesk(t, []string{line}, told)
		isNoCommandDesk(t, " "+line, line+" ", strings.ReplaceAll(line, " ", "  "), strings.ToUpper(line), line+" x", word)
	}
	isToldOneByOne(t, deskPair{"rules", "?"}, deskPair{"rules ", "ok"}, deskPair{"rules x;", "error 3"}, deskPair{"rules Link A B;", "error 1"}, deskPair{"put 1 a P x y 0 0", "error 3"},
		deskPair{"put 0 a P 2024-07-01 12:00:00 0 0", "error 1"}, deskPair{"batch 0", "error 1"}, deskPair{"batch 01", "?"}, deskPair{"find x y z w", "error 3"}, deskPair{"asof 1", "error 4"}, deskPair{"asof 0", "-"},
		deskPair{"synced", "?"}, deskPair{"full", "?"}, deskPair{"lines 1", "?"}, deskPair{"?", "?"}, deskPair{"ok", "?"})
}

// What is told of a line hangs on the lines ahead of it, that of sync and of those that are no commands with them.
func TestSyncs(t *testing.T) {
	isDesk(t, []string{"sync"}, "synced")
	isDesk(t, []string{"sync", "sync", "crash 9"}, "synced", "synced", "lines 0")
	isToldOneByOne(t, deskPair{"sync", "synced"}, deskPair{deskRules, "ok"}, deskPair{deskSummer, "ok"}, deskPair{"sync", "synced"}, deskPair{"sync", "synced"}, deskPair{"at 1", "2030-07-01 11:00:00"},
		deskPair{"crash 0", "lines 2"}, deskPair{"sync", "synced"}, deskPair{"at 1", "2030-07-01 11:00:00"}, deskPair{"drop 1", "ok"}, deskPair{"sync", "synced"}, deskPair{"crash 0", "lines 4"}, deskPair{"at 1", "none"})
}

// Lines that are like sync are lines of the Journal, and nothing is synced by them.
func TestLinesThatAreNoSyncs(t *testing.T) {
	for _, line := range []string{" sync", "sync ", "  sync", "sync  ", "sync 0", "sync 1", "sync x", "sync sync", "Sync", "SYNC", "syn", "synced", "s ync", "sync;", ";sync", "-sync", "sync.", "\"sync\""} {
		isDesk(t, []string{line, "crash 0"}, "?", "lines 0")
		isDesk(t, []string{line, "crash 100"}, "?", "lines 1")
		isDesk(t, []string{deskRules, deskSummer, line, "crash 0", "at 1"}, "ok", "ok", "?", "lines 0", "none")
	}
}

// crash takes a number as commands do, and no other one.
func TestNumbersOfCrashes(t *testing.T) {
	for _, n := range []string{"0", "1", "2", "9", "10", "99", "100", "8000", "8001", "100000000", "123456789", "999999999"} {
		isDesk(t, []string{"crash " + n}, "lines 0")
		isDesk(t, []string{"crash " + n, "sync", "crash " + n}, "lines 0", "synced", "lines 0")
	}
	for _, n := range []string{
		"", "00", "01", "007", "000000000", "000000001", "0123456789", "1000000000", "1234567890", "9999999999", "0000000001", "18446744073709551616", "18446744073709551617", "-1", "-0", "+1", "+0",
		"1.0", "1,0", "1_0", "1e3", "0x1", "a", "1a", "a1", "-", "N", "/", ":", "1 ", " 1", "  1", "1 1", "1 x", "0 0", "1  1", "1;",
	} {
		line := "crash " + n
		isDesk(t, []string{line, "crash 0"}, "?", "lines 0")
		isDesk(t, []string{"x", line, "sync", "crash 0"}, "?", "?", "synced", "lines 2")
		isDesk(t, []string{deskRules, deskSummer, line, "at 1"}, "ok", "ok", "?", "2030-07-01 11:00:00")
	}
	for _, line := range []string{"crash", " crash 1", "crash  1", "crash1", "Crash 1", "CRASH 1", "cras 1", "crashes 1", "crash x 1", "1 crash", "crash crash", "crash sync", "sync crash 0", "x crash 0"} {
		isDesk(t, []string{line, "x", "sync", "crash 0"}, "?", "?", "synced", "lines 2")
	}
}

// A crash within a line, at its end, and beyond the end: at each place, ahead of a sync and behind one.
func TestCrashesOfADeskAtEachPlace(t *testing.T) {
	lines := []string{deskRules, deskSummer, "", "x", "at 1", "drop 1", "at 1"}
	told := []string{"ok", "ok", "?", "?", "2030-07-01 11:00:00", "ok", "none"}
	ats := []string{"none", "none", "2030-07-01 11:00:00", "2030-07-01 11:00:00", "2030-07-01 11:00:00", "2030-07-01 11:00:00", "none", "none"}
	for synced := range len(lines) + 1 {
		rest := deskText(lines[synced:]...)
		for keep := range len(rest) + 3 {
			left := synced + strings.Count(rest[:min(keep, len(rest))], "\n")
			all := slices.Concat(lines[:synced], []string{"sync"}, lines[synced:], []string{fmt.Sprint("crash ", keep), "at 1", "crash 999999999"})
			want := slices.Concat(told[:synced], []string{"synced"}, told[synced:], []string{fmt.Sprint("lines ", left), ats[left], fmt.Sprint("lines ", left+1)})
			isDesk(t, all, want...)
		}
	}
}

// What is left behind a crash is synced; lines that are put behind it stand behind what is left.
func TestLinesBehindACrash(t *testing.T) {
	isToldOneByOne(t, deskPair{"crash 0", "lines 0"}, deskPair{deskRules, "ok"}, deskPair{deskSummer, "ok"}, deskPair{"crash 22", "lines 0"}, deskPair{deskSummer, "error 5"}, deskPair{"crash 39", "lines 1"}, deskPair{deskRules, "ok"},
		deskPair{deskWinter, "ok"}, deskPair{deskSummer, "ok"}, deskPair{"crash 62", "lines 3"}, deskPair{"crash 0", "lines 3"}, deskPair{deskFind, "2"}, deskPair{deskSummer, "ok"}, deskPair{deskFind, "2 1"}, deskPair{"asof 2", "1 2"}, deskPair{"sync", "synced"},
		deskPair{"drop 2", "ok"}, deskPair{"asof 3", "1"}, deskPair{"crash 6", "lines 7"}, deskPair{"asof 3", "error 4"}, deskPair{"drop 2", "ok"}, deskPair{"crash 7", "lines 8"}, deskPair{"drop 2", "ok"}, deskPair{"crash 999999999", "lines 9"}, deskPair{"crash 0", "lines 9"},
		deskPair{deskFind, "1"})
}

// The Journal of a desk has no more bytes than the desk's text: it is never full, be it as long as may be, and whatever
// is put behind a crash.
func TestDesksWithoutRoom(t *testing.T) {
	long := strings.Repeat("x", 1999)
	for _, lines := range [][]string{{long, long, long, long}, {long, long, long, long[:1993], "", "", "", "x", ""}, {long, long, long, long[:1994], "at 1"}} {
		text := deskText(lines...)
		if len(text) != 8000 {
			t.Fatalf("got %d bytes", len(text))
		}
		for _, told := range strings.Split(strings.TrimSuffix(impl.DeskRun(text).Text, "\n"), "\n") {
			if told != "?" && told != "none" {
				t.Errorf("got %q", told)
			}
		}
	}
	isDesk(t, []string{long, long, long, long[:1978], "crash 0", "at 1", "crash 9"}, "?", "?", "?", "?", "lines 0", "none", "lines 1")
	isDesk(t, []string{long, long, long, long[:1976], "sync", "at 1", "crash 0", "at 1"}, "?", "?", "?", "?", "synced", "none", "lines 4", "none")
}

// deskRulesTo are those of a zone whose summers end with a year.
func deskRulesTo(last string) string {
	return "rules Rule E 1980 " + last + " - Mar lastSun 1:00u 1:00 S;Rule E 1980 max - Oct lastSun 1:00u 0 -;Zone P 1:00 E CE%sT;"
}

// Promise 16, by hand: summers end with 2028, and just the appointment in a summer behind that moves; batches stand
// ahead of, between and behind what is asked. What a crash takes back is asked as ahead.
func TestNewRulesMoveWhatTheyChange(t *testing.T) {
	older, newer := deskRulesTo("max"), deskRulesTo("2028")
	isToldOneByOne(t,
		deskPair{older, "ok"}, deskPair{"batch 1", "error 10"}, deskPair{deskSummer, "ok"}, deskPair{deskWinter, "ok"}, deskPair{"put 3 sooner P 2028-07-01 12:00:00 0 0", "ok"},
		deskPair{"at 1", "2030-07-01 10:00:00"}, deskPair{"at 2", "2030-01-10 11:00:00"}, deskPair{"at 3", "2028-07-01 10:00:00"}, deskPair{"sync", "synced"},
		deskPair{newer, "ok"}, deskPair{"at 1", "2030-07-01 11:00:00"}, deskPair{"at 2", "2030-01-10 11:00:00"}, deskPair{"at 3", "2028-07-01 10:00:00"}, deskPair{newer, "error 10"},
		deskPair{"batch 1", "ok 1"}, deskPair{"at 1", "2030-07-01 11:00:00"}, deskPair{deskFind, "2 1"}, deskPair{"batch 1", "ok 0"}, deskPair{"find 2030-07-01 10:00:00 2030-07-01 10:59:59", "-"},
		deskPair{"batch 1", "ok 0"}, deskPair{"batch 1", "error 10"}, deskPair{"at 1", "2030-07-01 11:00:00"}, deskPair{"at 2", "2030-01-10 11:00:00"}, deskPair{"asof 3", "1 2 3"},
		deskPair{"crash 0", "lines 8"}, deskPair{"at 1", "2030-07-01 10:00:00"}, deskPair{"at 2", "2030-01-10 11:00:00"}, deskPair{"at 3", "2028-07-01 10:00:00"}, deskPair{"batch 1", "error 10"},
		deskPair{newer, "ok"}, deskPair{"sync", "synced"}, deskPair{"batch 1000", "ok 1"}, deskPair{"batch 1", "error 10"}, deskPair{"crash 10", "lines 13"}, deskPair{"at 1", "2030-07-01 11:00:00"},
		deskPair{"batch 2", "ok 1"}, deskPair{"batch 2", "ok 0"}, deskPair{"batch 2", "error 10"})
	// Rules that change none, and rules that give back what others took.
	isToldOneByOne(t, deskPair{newer, "ok"}, deskPair{deskSummer, "ok"}, deskPair{deskWinter, "ok"}, deskPair{newer, "ok"}, deskPair{"batch 2", "ok 0"}, deskPair{deskRulesTo("2029"), "ok"}, deskPair{"batch 2", "ok 0"},
		deskPair{deskRulesTo("2030"), "ok"}, deskPair{"at 1", "2030-07-01 10:00:00"}, deskPair{"batch 2", "ok 1"}, deskPair{older, "ok"}, deskPair{"batch 1", "ok 0"}, deskPair{"batch 1", "ok 0"}, deskPair{"batch 1", "error 10"})
}

// Promise 16: the crash of a desk that follows new rules, at each place behind the sync.
func TestCrashesOnTheWayToNewRules(t *testing.T) {
	lines := []string{deskRulesTo("max"), deskSummer, deskWinter, "sync"}
	told := []string{"ok", "ok", "ok", "synced"}
	rest := []string{deskRulesTo("2028"), "batch 1", "drop 1", "batch 1"}
	// Behind as many lines of the rest: what is told of both appointments, and of two batches.
	behind := [][]string{
		{"2030-07-01 10:00:00", "2030-01-10 11:00:00", "error 10", "error 10"},
		{"2030-07-01 11:00:00", "2030-01-10 11:00:00", "ok 1", "ok 0"},
		{"2030-07-01 11:00:00", "2030-01-10 11:00:00", "ok 0", "error 10"},
		{"none", "2030-01-10 11:00:00", "ok 0", "error 10"},
		{"none", "2030-01-10 11:00:00", "error 10", "error 10"},
	}
	text := deskText(rest...)
	for keep := range len(text) + 2 {
		left := strings.Count(text[:min(keep, len(text))], "\n")
		all := slices.Concat(lines, rest, []string{fmt.Sprint("crash ", keep), "at 1", "at 2", "batch 1", "batch 1"})
		isDesk(t, all, slices.Concat(told, []string{"ok", "ok 1", "ok", "ok 0", fmt.Sprint("lines ", 3+left)}, behind[left])...)
	}
}
