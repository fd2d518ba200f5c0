package tests

import (
	"fmt"
	"slices"
	"strings"
	"testing"

	"loop.example/g00364/impl"
)

// rulesLine is the command that installs a text.
func rulesLine(text string) string {
	return "rules " + strings.ReplaceAll(text, "\n", ";")
}

// putLine is the command that puts an Event whose Wall has a text.
func putLine(e impl.Event) string {
	return fmt.Sprintf("put %d %s %s %s %d %d", e.Id, e.Name, e.Zone, impl.TimeText(e.Wall), e.Gap, e.Fold)
}

// isDone asks for one text that is told, and for a right Store beside it.
func isDone(t *testing.T, s impl.Store, line string, told string) impl.Store {
	t.Helper()
	before := storeText(s)
	out := impl.Do(s, line)
	if out.Code != impl.OK || !slices.Equal(out.Told, []string{told}) {
		t.Errorf("%.80q: got %q and the code %d, want %q", line, out.Told, out.Code, told)
	}
	if !impl.StoreRight(out.Store) {
		t.Fatalf("%.80q: the Store is not right: %s", line, storeText(out.Store))
	}
	if storeText(s) != before {
		t.Errorf("%.80q has made\n%s of\n%s", line, storeText(s), before)
	}
	return out.Store
}

// isAsked asks that the Store stays as it is, too (promise 14).
func isAsked(t *testing.T, s impl.Store, line string, told string) {
	t.Helper()
	isSameStore(t, line, isDone(t, s, line, told), s)
}

// isInVain is of what a command asks for, and is refused.
func isInVain(t *testing.T, s impl.Store, line string, code int64) {
	t.Helper()
	isAsked(t, s, line, fmt.Sprint("error ", code))
}

// isNotDone asks for a code, and nothing beside it.
func isNotDone(t *testing.T, s impl.Store, line string, code int64) {
	t.Helper()
	before := storeText(s)
	if out := impl.Do(s, line); out.Code != code || len(out.Told) > 0 || storeText(out.Store) != storeText(impl.Store{}) {
		t.Errorf("%.80q: got %q, the code %d and the Tx %d, want nothing but the code %d", line, out.Told, out.Code, out.Store.Tx, code)
	}
	if storeText(s) != before {
		t.Errorf("%.80q has made\n%s of\n%s", line, storeText(s), before)
	}
}

// atRest has the Events 3, 7 and 8 live, 9 dropped, and the Cursor 0. By its rules 3 has no instant, being in a gap.
func atRest(t *testing.T) impl.Store {
	t.Helper()
	s := storeOf(t, olderText, event(7, "P", summerWall), event(8, "Q", winterWall), event(3, "Home", gapWall), event(9, "Q", 0))
	return isStored(t, impl.Drop(s, 9))
}

// The table of commands, on the Store without anything.
func TestCommandsOnTheStoreWithoutAnything(t *testing.T) {
	s := impl.Store{}
	isInVain(t, s, "put 1 a P 2024-07-01 12:00:00 0 0", impl.ErrNone)
	isInVain(t, s, "put 1 a P x y 0 0", impl.ErrSyntax)
	isInVain(t, s, "drop 1", impl.ErrNone)
	isInVain(t, s, "batch 1", impl.ErrState)
	isInVain(t, s, "batch 0", impl.ErrForm)
	isAsked(t, s, "at 1", "none")
	isAsked(t, s, "find 0001-01-01 00:00:00 9999-12-31 23:59:59", "-")
	isInVain(t, s, "find x y z w", impl.ErrSyntax)
	isAsked(t, s, "asof 0", "-")
	isInVain(t, s, "asof 1", impl.ErrRange)
	isAsked(t, s, "rules ", "ok")
	isSameStore(t, "rules", isDone(t, s, rulesLine(olderText), "ok"), storeOf(t, olderText))
	isNotDone(t, s, "", impl.ErrSyntax)
	isNotDone(t, s, "at", impl.ErrSyntax)
}

// The table of commands, on a Store that follows no new rules.
func TestCommandsOnAStoreAtRest(t *testing.T) {
	s := atRest(t)
	e := impl.Event{Id: 7, Name: "b", Zone: "Q", Wall: instant(t, "2024-07-01 12:00:00"), Gap: 1, Fold: 2}
	isSameStore(t, "put", isDone(t, s, "put 7 b Q 2024-07-01 12:00:00 1 2", "ok"), isStored(t, impl.Put(s, e)))
	isSameStore(t, "drop", isDone(t, s, "drop 8", "ok"), isStored(t, impl.Drop(s, 8)))
	isSameStore(t, "rules", isDone(t, s, rulesLine(olderText), "ok"), isStored(t, impl.Install(s, olderText)))
	isInVain(t, s, "drop 9", impl.ErrNone)
	isInVain(t, s, "batch 1", impl.ErrState)
	isAsked(t, s, "at 7", "2026-07-01 10:00:00")
	isAsked(t, s, "at 8", "2026-01-01 09:30:00")
	isAsked(t, s, "find 2026-01-01 09:30:00 2026-07-01 10:00:00", "8 7")
	isAsked(t, s, "asof 4", "3 7 8 9")
}

// The table of commands, on a Store that follows new rules, by which all is asked.
func TestCommandsOnAStoreOnItsWay(t *testing.T) {
	s := aStore(t)
	e := impl.Event{Id: 50, Name: "x", Zone: "Home", Wall: 0}
	isSameStore(t, "put", isDone(t, s, "put 50 x Home 1970-01-01 00:00:00 0 0", "ok"), isStored(t, impl.Put(s, e)))
	isInVain(t, s, "put 50 x Newer 1970-01-01 00:00:00 0 0", impl.ErrNone)
	isSameStore(t, "drop", isDone(t, s, "drop 30", "ok"), isStored(t, impl.Drop(s, 30)))
	isInVain(t, s, rulesLine(newerText), impl.ErrState)
	for line, at := range map[string]string{"at 10": "2026-07-01 09:00:00", "at 20": "2026-01-01 09:00:00", "at 30": "2026-07-01 11:00:00", "at 40": "2026-07-01 09:00:00"} {
		isAsked(t, s, line, at)
	}
	isAsked(t, s, "find 2026-01-01 09:00:00 2026-07-01 11:00:00", "20 10 40 30")
	isAsked(t, s, "find 2026-07-01 09:00:00 2026-07-01 09:00:00", "10 40")
	for tx, ids := range []string{"-", "30", "20 30", "10 20 30", "5 10 20 30", "5 10 20 30 40", "5 10 20 30 40", "10 20 30 40", "10 20 40", "10 20 30 40"} {
		isAsked(t, s, fmt.Sprint("asof ", tx), ids)
	}
	isInVain(t, s, "asof 10", impl.ErrRange)
	isInVain(t, s, "asof 999999999", impl.ErrRange)
}

// New rules are followed batch by batch; what is told of each is how many instants are others.
func TestBatchesByCommands(t *testing.T) {
	s := aStore(t)
	isSameStore(t, "all", isDone(t, s, "batch 1000", "ok 2"), isStored(t, impl.Batch(s, 1000)))
	for _, most := range []string{"0", "1001", "999999999"} {
		isInVain(t, s, "batch "+most, impl.ErrForm)
	}
	one := isDone(t, s, "batch 1", "ok 1")
	isSameStore(t, "one", one, isStored(t, impl.Batch(s, 1)))
	last := isDone(t, one, "batch 1", "ok 1")
	if one.Cursor != 31 || last.Cursor != 0 {
		t.Errorf("got the Cursors %d and %d, want 31 and 0", one.Cursor, last.Cursor)
	}
	isInVain(t, last, "batch 1", impl.ErrState)
	same := isDone(t, last, rulesLine(newerText), "ok")
	if same.Cursor != 1 {
		t.Errorf("got the Cursor %d, want 1", same.Cursor)
	}
	isDone(t, same, "batch 3", "ok 0")
	many := isStored(t, impl.Install(manyLive(t, 30), newerText))
	isDone(t, many, "batch 1000", fmt.Sprint("ok ", impl.Batch(many, 1000).Many))
}

// Each command tells ErrForm of a Store that is not right, and so does what is no command; ErrSize is ahead of that.
func TestCommandsOnStoresThatAreNotRight(t *testing.T) {
	wrongs := []impl.Store{
		{Tx: -1}, {Tx: 900001}, {Cursor: -1}, {Cursor: 1000002}, {Was: impl.ReleaseRead(olderText).Release}, {Index: []impl.Entry{{}}},
		withStore(t, func(s *impl.Store) { s.Index[0].At++ }), withStore(t, func(s *impl.Store) { s.Tx = 8 }),
		withStore(t, func(s *impl.Store) { s.Versions[3].Event.Gap = 3 }),
		withStore(t, func(s *impl.Store) { s.Now.Rules[0].Month = 13 }),
	}
	lines := append(rightLines(), "", "x", "at", "at 1\n", "at 01", "rules", "put 1 a P x y 0 0", strings.Repeat("x", 8000))
	for _, s := range wrongs {
		for _, line := range lines {
			isNotDone(t, s, line, impl.ErrForm)
		}
		isNotDone(t, s, strings.Repeat("x", 8001), impl.ErrSize)
		isNotDone(t, s, "rules "+strings.Repeat(" ", 7995), impl.ErrSize)
	}
}

// A DATE and a TIME that are none are told ahead of all that Put would tell.
func TestPutOfTimesThatAreNone(t *testing.T) {
	stores := []impl.Store{{}, atRest(t), aStore(t), {Tx: 900000, Now: impl.ReleaseRead(olderText).Release}}
	times := []string{"x y", "2026-02-29 00:00:00", "2026-7-01 12:00:00", "2026-07-01 24:00:00", "2026-07-01 12:60:00", "2026-07-01 12:00:60", "0000-01-01 00:00:00",
		"10000-01-01 00:00:00", "2026-07-01 12:00", "12:00:00 2026-07-01", "2026-07-01\t 12:00:00", "2026-07-01 \t12:00:00", "- -", "0 0"}
	for _, s := range stores {
		for _, time := range times {
			isInVain(t, s, "put 20 a Q "+time+" 0 0", impl.ErrSyntax)
			isInVain(t, s, "put 20 a None "+time+" 0 0", impl.ErrSyntax)
			isInVain(t, s, "put 0 1 1 "+time+" 3 3", impl.ErrSyntax)
		}
	}
}

func TestPutOfTheFirstAndTheLastTimes(t *testing.T) {
	s := atRest(t)
	for text, wall := range map[string]int64{
		"0001-01-01 00:00:00": impl.MinTime, "0001-01-01 00:00:01": impl.MinTime + 1, "1969-12-31 23:59:59": -1, "1970-01-01 00:00:00": 0,
		"9999-12-31 23:59:58": impl.MaxTime - 1, "9999-12-31 23:59:59": impl.MaxTime, "2024-02-29 00:00:00": wallTime(2024, 2, 29, 0),
	} {
		after := isDone(t, s, "put 1000000 a Q "+text+" 0 0", "ok")
		isSameStore(t, text, after, isStored(t, impl.Put(s, impl.Event{Id: 1000000, Name: "a", Zone: "Q", Wall: wall})))
		if last := after.Versions[len(after.Versions)-1].Event; last.Wall != wall {
			t.Errorf("%s: got the Event %+v, want the Wall %d", text, last, wall)
		}
	}
	isAsked(t, isDone(t, s, "put 1 a Q 9999-12-31 23:59:59 0 0", "ok"), "at 1", "9999-12-31 21:29:59")
	isAsked(t, isDone(t, s, "put 1 a Q 0001-01-01 02:30:00 0 0", "ok"), "at 1", "0001-01-01 00:00:00")
	isAsked(t, isDone(t, s, "put 1 a Q 0001-01-01 02:29:59 0 0", "ok"), "at 1", "none")
}

// Each word of put is taken to its field, and each code of Put is told.
func TestPutWordByWord(t *testing.T) {
	s := atRest(t)
	for gap := range int64(3) {
		for fold := range int64(3) {
			e := impl.Event{Id: 1 + 3*gap + fold, Name: "N+/_-9", Zone: "Home", Wall: foldWall, Gap: gap, Fold: fold}
			isSameStore(t, putLine(e), isDone(t, s, putLine(e), "ok"), isStored(t, impl.Put(s, e)))
		}
	}
	for _, line := range []string{
		"put 0 a P 2024-07-01 12:00:00 0 0", "put 1000001 a P 2024-07-01 12:00:00 0 0", "put 999999999 a P 2024-07-01 12:00:00 0 0",
		"put 1 1 P 2024-07-01 12:00:00 0 0", "put 1 a; P 2024-07-01 12:00:00 0 0", "put 1 a 1 2024-07-01 12:00:00 0 0", "put 1 a\tb P 2024-07-01 12:00:00 0 0",
		"put 1 abcdefghijklmnopqrstu P 2024-07-01 12:00:00 0 0", "put 1 \xff P 2024-07-01 12:00:00 0 0", "put 1 a \x00 2024-07-01 12:00:00 0 0",
		"put 1 a P 2024-07-01 12:00:00 3 0", "put 1 a P 2024-07-01 12:00:00 0 3", "put 1 a P 2024-07-01 12:00:00 999999999 0",
	} {
		isInVain(t, s, line, impl.ErrForm)
	}
	isDone(t, s, "put 1000000 abcdefghijklmnopqrst P 2024-07-01 12:00:00 0 0", "ok")
	isInVain(t, s, "put 1 a None 2024-07-01 12:00:00 0 0", impl.ErrNone)
	isInVain(t, s, "put 1 a p 2024-07-01 12:00:00 0 0", impl.ErrNone)
	at := "2024-07-01 12:00:00 0 0"
	for _, full := range []impl.Store{manyVersions(t, 60), {Tx: 900000, Now: s.Now}} {
		isInVain(t, full, "put 1 a P "+at, impl.ErrFull)
		isInVain(t, full, "put 1 a None "+at, impl.ErrNone)
		isInVain(t, full, "put 0 a P "+at, impl.ErrForm)
	}
	many := manyLive(t, 30)
	isInVain(t, many, "put 1000 a P "+at, impl.ErrFull)
	isDone(t, many, "put 30 a P "+at, "ok")
	isInVain(t, manyVersions(t, 60), "drop 1", impl.ErrFull)
	isInVain(t, manyVersions(t, 60), "drop 2", impl.ErrNone)
	isDone(t, manyVersions(t, 59), "drop 1", "ok")
}

// What is behind "rules " is installed, whatever it is, and each ";" in it is a line feed.
func TestRulesThatAreInstalled(t *testing.T) {
	s := impl.Store{Now: impl.ReleaseRead(olderText).Release}
	for _, text := range []string{
		"", "\n", "\n\n\n", "  \n", " \t\n \n", "# a # b\n", "Zone P 1:00 - X\n", "Zone  P\t1:00 - X # c\n", " Zone P 1:00 - X \n", "# Zone P 1:00 - X\nZone Q 0 - X\n",
		"Zone P 0 - X\n\nLink P H\n", "\nZone P 0 - A 1990\n0 - B\n\n", olderText, newerText, "# \xff\x00 caf\u00e9\n",
	} {
		isSameStore(t, text, isDone(t, s, rulesLine(text), "ok"), isStored(t, impl.Install(s, text)))
	}
	if after := isDone(t, s, "rules ", "ok"); len(after.Now.Zones)+len(after.Now.Rules)+len(after.Now.Links) > 0 {
		t.Errorf("got %+v of no rules", after.Now)
	}
	if after := isDone(t, s, "rules Zone P 1:00 - X;Link P rules;", "ok"); len(after.Now.Zones) != 1 || len(after.Now.Links) != 1 || after.Now.Links[0].Name != "rules" {
		t.Errorf("got %+v", after.Now)
	}
}

func TestRulesThatAreRefused(t *testing.T) {
	s := atRest(t)
	for _, text := range []string{" ", "   ", "\t", "x", "Zone P 1:00 - X", ";Zone P 1:00 - X", "Zone P 1:00 - X; ", "Zone P 1:00 -; X;", "x;", "# c", "rules ;", "Zone P 1:00 - X 1990;", "Zone\vP 1:00 - X;"} {
		isInVain(t, s, "rules "+text, impl.ErrSyntax)
		isInVain(t, impl.Store{}, "rules "+text, impl.ErrSyntax)
	}
	for _, text := range []string{"Link P H;", "Zone P 0 - X;Zone P 0 - X;", "Zone P 0 E X;"} {
		isInVain(t, s, "rules "+text, impl.ErrForm)
		isInVain(t, aStore(t), "rules "+text, impl.ErrState)
	}
	for _, text := range []string{"", ";", "Zone P 0 - X;", "Zone P 0 - X;Zone Q 0 - X;", "Zone Q 0 - X;Link Q Home;"} {
		isInVain(t, s, "rules "+text, impl.ErrNone)
		isInVain(t, aStore(t), "rules "+text, impl.ErrState)
	}
	for _, line := range []string{"rules", "rules;", "Rules ;", "RULES ;", " rules ;", "rules\t;", "rule ;", "rulesx ;", "rules \n", "rules ;\n", "rules \n;", "\nrules ;"} {
		isNotDone(t, s, line, impl.ErrSyntax)
		isNotDone(t, impl.Store{}, line, impl.ErrSyntax)
	}
}

// at of Events that are live, dropped, never put, and of such that have no instant.
func TestAtOfAllKindsOfEvents(t *testing.T) {
	s := atRest(t)
	for id, told := range map[string]string{"7": "2026-07-01 10:00:00", "8": "2026-01-01 09:30:00", "3": "none", "9": "none", "1": "none", "0": "none", "77": "none", "1000001": "none", "999999999": "none"} {
		isAsked(t, s, "at "+id, told)
	}
	for choice, told := range map[int64]string{0: "none", 1: "2026-03-29 01:30:00", 2: "2026-03-29 00:30:00"} {
		e := impl.Event{Id: 4, Name: "a", Zone: "P", Wall: gapWall, Gap: choice}
		isAsked(t, isDone(t, s, putLine(e), "ok"), "at 4", told)
	}
	for choice, told := range map[int64]string{0: "none", 1: "2026-10-25 00:30:00", 2: "2026-10-25 01:30:00"} {
		e := impl.Event{Id: 4, Name: "a", Zone: "P", Wall: foldWall, Fold: choice}
		isAsked(t, isDone(t, s, putLine(e), "ok"), "at 4", told)
	}
	isAsked(t, isDone(t, s, "drop 7", "ok"), "at 7", "none")
	// A full table has no instants.
	busy := impl.Release{Rules: manyRules(2001), Zones: []impl.Zone{{Name: "P", Eras: []impl.Era{{Rules: manyRules(1)[0].Name, Format: "X", Until: impl.MaxTime, Of: "w"}}}}}
	full := isDone(t, impl.Store{Now: busy}, "put 8 a P 1970-01-01 00:00:00 1 1", "ok")
	isAsked(t, full, "at 8", "none")
	isAsked(t, full, "find 0001-01-01 00:00:00 9999-12-31 23:59:59", "-")
	isAsked(t, full, "asof 1", "8")
	// By the newer rules there is no gap, and the clock is asked by these at once.
	after := isDone(t, s, rulesLine(newerText), "ok")
	isAsked(t, after, "at 3", "2026-03-28 23:30:00")
	isAsked(t, after, "at 7", "2026-07-01 11:00:00")
}

// find tells none, one and more, in the order of their instants, the ends with them.
func TestFindByCommands(t *testing.T) {
	s := storeOf(t, olderText, event(9, "Q", winterWall), event(10, "P", winterWall+2), event(1, "P", winterWall+2), event(2, "Older", winterWall-10800))
	for times, ids := range map[string]string{
		"2026-01-01 09:00:00 2026-01-01 11:00:02": "2 9 1 10",
		"2026-01-01 09:00:01 2026-01-01 11:00:02": "9 1 10",
		"2026-01-01 09:00:00 2026-01-01 11:00:01": "2 9",
		"2026-01-01 09:30:00 2026-01-01 09:30:00": "9",
		"2026-01-01 09:30:01 2026-01-01 11:00:01": "-",
		"2026-01-01 11:00:02 2026-01-01 11:00:02": "1 10",
		"2026-01-01 11:00:02 2026-01-01 09:00:00": "-",
		"2026-01-01 09:30:01 2026-01-01 09:30:00": "-",
		"0001-01-01 00:00:00 9999-12-31 23:59:59": "2 9 1 10",
		"9999-12-31 23:59:59 0001-01-01 00:00:00": "-",
		"0001-01-01 00:00:00 0001-01-01 00:00:00": "-",
	} {
		isAsked(t, s, "find "+times, ids)
	}
	for _, times := range []string{
		"x y 2026-01-01 11:00:02", "2026-01-01 11:00:02 x y", "x y z w", "2026-02-29 00:00:00 2026-03-01 00:00:00", "2026-03-01 00:00:00 2026-02-29 00:00:00",
		"2026-01-01 24:00:00 2026-01-02 00:00:00", "0000-12-31 23:59:59 9999-12-31 23:59:59", "2026-01-01 9:00:00 2026-01-01 11:00:02", "2026-01-01 2026-01-01 11:00:02 11:00:02",
	} {
		isInVain(t, s, "find "+times, impl.ErrSyntax)
		isInVain(t, impl.Store{}, "find "+times, impl.ErrSyntax)
	}
}

// asof tells by Ids, not by instants, what was said then.
func TestAsOfByCommands(t *testing.T) {
	s := storeOf(t, olderText, event(1000000, "P", 0), event(10, "P", 5), event(9, "P", 9))
	s = isDone(t, isDone(t, isDone(t, s, "drop 10", "ok"), "drop 9", "ok"), "drop 1000000", "ok")
	for tx, ids := range []string{"-", "1000000", "10 1000000", "9 10 1000000", "9 1000000", "1000000", "-"} {
		isAsked(t, s, fmt.Sprint("asof ", tx), ids)
	}
	isInVain(t, s, "asof 7", impl.ErrRange)
	isAsked(t, impl.Store{Tx: 900000}, "asof 900000", "-")
	isInVain(t, impl.Store{Tx: 900000}, "asof 900001", impl.ErrRange)
	many := manyLive(t, 30)
	ids := []string{}
	for _, e := range impl.Live(many) {
		ids = append(ids, fmt.Sprint(e.Id))
	}
	isAsked(t, many, fmt.Sprint("asof ", many.Tx), strings.Join(ids, " "))
}

// Promise 14: what only asks leaves any right Store as it is, and so does each command in vain.
func TestCommandsThatLeaveTheStoreAsItIs(t *testing.T) {
	empty := impl.Release{Rules: []impl.Rule{}, Zones: []impl.Zone{}, Links: []impl.Link{}}
	stores := []impl.Store{{}, {Tx: 900000}, {Cursor: 1000001}, {Now: empty, Was: empty, Versions: []impl.Version{}, Index: []impl.Entry{}},
		atRest(t), aStore(t), fiveEvents(t), manyVersions(t, 60), manyLive(t, 30), isStored(t, impl.Install(manyLive(t, 30), newerText))}
	asks := []string{"at 0", "at 1", "at 10", "at 999999999", "find 0001-01-01 00:00:00 9999-12-31 23:59:59", "find 9999-12-31 23:59:59 0001-01-01 00:00:00",
		"find 2026-01-01 00:00:00 2026-06-01 00:00:00", "find x y z w", "asof 0", "asof 1", "asof 5", "asof 900000", "asof 900001",
		"put 1 a None 2024-07-01 12:00:00 0 0", "put 0 a P 2024-07-01 12:00:00 0 0", "put 1 a P x y 0 0", "drop 0", "drop 999999", "batch 0", "batch 1001", "rules x"}
	for _, s := range stores {
		for _, line := range asks {
			out := impl.Do(s, line)
			if out.Code != impl.OK || len(out.Told) != 1 {
				t.Errorf("%q: got %+v", line, out)
			}
			isSameStore(t, line, out.Store, s)
		}
	}
}
