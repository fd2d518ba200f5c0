package tests

import (
	"fmt"
	"slices"
	"strings"
	"testing"

	"loop.example/g00364/impl"
)

// journal is of those lines, so many bytes of it synced.
func journal(synced int64, lines ...string) impl.Journal {
	text := ""
	for _, line := range lines {
		text += line + "\n"
	}
	return impl.Journal{Text: text, Synced: synced}
}

// isRightJournal asks the same of all calls that take a Journal.
func isRightJournal(t *testing.T, what string, j impl.Journal, want bool) {
	t.Helper()
	if got := impl.JournalRight(j); got != want {
		t.Errorf("%s: is it right? got %v, want %v", what, got, want)
		return
	}
	if want {
		return
	}
	for _, line := range []string{"", "at 1", "\n", strings.Repeat("x", 2001), strings.Repeat("x", 8000)} {
		isNotAdded(t, what, impl.JournalAdd(j, line), impl.ErrForm)
	}
	isNotAdded(t, what, impl.JournalAdd(j, strings.Repeat("x", 8001)), impl.ErrSize)
	if got := impl.JournalSync(j); got != j {
		t.Errorf("%s: JournalSync has told another one, of %d bytes, %d synced", what, len(got.Text), got.Synced)
	}
	for _, keep := range append([]int64{-1, 0, 1, 8000}, extremes...) {
		if got := impl.JournalCrash(j, keep); got != j {
			t.Errorf("%s: JournalCrash of %d has told another one, of %d bytes, %d synced", what, keep, len(got.Text), got.Synced)
		}
	}
	if got := impl.JournalRun(j); got.Code != impl.ErrForm || len(got.Told) > 0 || storeText(got.Store) != storeText(impl.Store{}) {
		t.Errorf("%s: JournalRun has told %.80q and the code %d, want nothing but the code %d", what, got.Told, got.Code, impl.ErrForm)
	}
}

func isNotAdded(t *testing.T, what string, got impl.JournalOut, code int64) {
	t.Helper()
	if want := (impl.JournalOut{Code: code}); got != want {
		t.Errorf("%s: got %.200q, want nothing but the code %d", what, fmt.Sprint(got), code)
	}
}

func isAdded(t *testing.T, j impl.Journal, line string) impl.Journal {
	t.Helper()
	got := impl.JournalAdd(j, line)
	want := impl.JournalOut{Journal: impl.Journal{Text: j.Text + line + "\n", Synced: j.Synced}}
	if got != want {
		t.Fatalf("%.80q: got %.200q, want %.200q", line, fmt.Sprint(got), fmt.Sprint(want))
	}
	isRightJournal(t, "with a line more", got.Journal, true)
	return got.Journal
}

func TestJournalsOfAllForms(t *testing.T) {
	for text, want := range map[string]bool{
		"": true, "\n": true, "\n\n\n": true, "x\n": true, "x\n\n": true, "\nx\n": true, " \n": true, "~\n": true, "at 1\nno command\n": true,
		"x": false, " ": false, "x\ny": false, "\nx": false, "\n\n ": false, "x\r\n": false, "x\ty\n": false, "\x00\n": false, "\x7f\n": false, "caf\u00e9\n": false, "\xff\n": false,
	} {
		for synced := int64(-1); synced <= int64(len(text))+1; synced++ {
			right := want && synced >= 0 && synced <= int64(len(text))
			isRightJournal(t, fmt.Sprintf("%q, %d synced", text, synced), impl.Journal{Text: text, Synced: synced}, right)
		}
		for _, synced := range extremes {
			isRightJournal(t, fmt.Sprintf("%q, %d synced", text, synced), impl.Journal{Text: text, Synced: synced}, false)
		}
	}
}

// Each byte, in the first line and in the last one, at their ends and between.
func TestEachByteOfAJournal(t *testing.T) {
	for b := range 256 {
		one := string([]byte{byte(b)})
		right := b >= 32 && b <= 126
		for _, form := range []string{"?", "?x", "x?", "x?x"} {
			line := strings.ReplaceAll(form, "?", one)
			for _, text := range []string{line + "\n", line + "\nx\n", "x\n" + line + "\n", "\n" + line + "\n\n"} {
				isRightJournal(t, fmt.Sprintf("%q", text), impl.Journal{Text: text}, right || b == '\n')
			}
			for _, text := range []string{line, "x\n" + line} {
				isRightJournal(t, fmt.Sprintf("%q", text), impl.Journal{Text: text}, b == '\n' && strings.HasSuffix(text, "\n"))
			}
			if right {
				isAdded(t, impl.Journal{}, line)
				isAdded(t, journal(1, "x"), line)
			} else {
				isNotAdded(t, fmt.Sprintf("%q", line), impl.JournalAdd(impl.Journal{}, line), impl.ErrForm)
				isNotAdded(t, fmt.Sprintf("%q", line), impl.JournalAdd(journal(1, "x"), line), impl.ErrForm)
			}
		}
	}
}

// Lines of 2000 bytes, and one more; texts of 8000 bytes, and one more.
func TestLongJournals(t *testing.T) {
	line := strings.Repeat("x", 2000)
	for what, lines := range map[string][]string{"alone": {}, "the last one": {"x", ""}} {
		isRightJournal(t, what, journal(0, append(lines, line)...), true)
		isRightJournal(t, what, journal(0, append(lines, line+"x")...), false)
		isRightJournal(t, what, journal(0, append(lines, line, "x", line)...), true)
		isRightJournal(t, what, journal(0, append(lines, line+"x", "x")...), false)
		isRightJournal(t, what, impl.Journal{Text: journal(0, lines...).Text + line}, false)
	}
	most := journal(0, line, line, line, line[:1996])
	if len(most.Text) != 8000 {
		t.Fatalf("got %d bytes", len(most.Text))
	}
	for _, synced := range []int64{0, 1, 4000, 7999, 8000} {
		most.Synced = synced
		isRightJournal(t, "8000 bytes", most, true)
		isRightJournal(t, "8001 bytes", impl.Journal{Text: most.Text + "\n", Synced: synced}, false)
		isRightJournal(t, "8000 bytes, no line feed at their end", impl.Journal{Text: most.Text[:7999] + "x", Synced: synced}, false)
	}
	most.Synced = 8001
	isRightJournal(t, "8000 bytes, 8001 synced", most, false)
	isRightJournal(t, "8001 bytes, 8001 synced", impl.Journal{Text: most.Text + "\n", Synced: 8001}, false)
	feeds := strings.Repeat("\n", 8000)
	isRightJournal(t, "8000 lines", impl.Journal{Text: feeds, Synced: 8000}, true)
	isRightJournal(t, "8001 lines", impl.Journal{Text: feeds + "\n", Synced: 8000}, false)
	isRightJournal(t, "very many lines", impl.Journal{Text: strings.Repeat("at 1\n", 1000000)}, false)
}

func TestLinesThatAreAdded(t *testing.T) {
	j := impl.Journal{}
	for _, line := range []string{"rules Zone P 1:00 - X;", "", " ", "no command", "put 1 a P 2024-07-01 12:00:00 0 0", "~"} {
		j = isAdded(t, j, line)
		j = isAdded(t, impl.JournalSync(j), line)
	}
	for _, line := range []string{strings.Repeat("x", 1999), strings.Repeat(" ", 2000), strings.Repeat("~", 2000)} {
		j = isAdded(t, j, line)
	}
	for _, line := range []string{"\n", "x\n", "\nx", "x\ny", "\r", "\t", "\x1f", "\x7f", "\x00", "\u00e9", "\xff", strings.Repeat("x", 2001), strings.Repeat("x", 8000), strings.Repeat("x", 2000) + "\n"} {
		isNotAdded(t, line, impl.JournalAdd(j, line), impl.ErrForm)
		isNotAdded(t, line, impl.JournalAdd(impl.Journal{}, line), impl.ErrForm)
	}
	for _, line := range []string{strings.Repeat("x", 8001), strings.Repeat("\n", 8001), strings.Repeat("x", 1000000)} {
		isNotAdded(t, line[:9], impl.JournalAdd(j, line), impl.ErrSize)
		isNotAdded(t, line[:9], impl.JournalAdd(impl.Journal{Synced: 1}, line), impl.ErrSize)
	}
}

// Where Text would have 8000 bytes, and one more. A wrong line is told ahead of that.
func TestJournalsThatAreFull(t *testing.T) {
	line := strings.Repeat("x", 2000)
	for _, free := range []int{0, 1, 2, 3, 500, 1996} {
		j := journal(0, line, line, line)
		j = isAdded(t, j, line[:1996-free])
		j.Synced = int64(free)
		if len(j.Text) != 8000-free {
			t.Fatalf("got %d bytes", len(j.Text))
		}
		if free > 0 {
			full := isAdded(t, j, line[:free-1])
			isNotAdded(t, "full", impl.JournalAdd(full, ""), impl.ErrFull)
		}
		isNotAdded(t, fmt.Sprint(free, " bytes free"), impl.JournalAdd(j, line[:free]), impl.ErrFull)
		isNotAdded(t, fmt.Sprint(free, " bytes free"), impl.JournalAdd(j, line), impl.ErrFull)
		isNotAdded(t, fmt.Sprint(free, " bytes free"), impl.JournalAdd(j, line+"x"), impl.ErrForm)
		isNotAdded(t, fmt.Sprint(free, " bytes free"), impl.JournalAdd(j, strings.Repeat("\n", free+1)), impl.ErrForm)
		isNotAdded(t, fmt.Sprint(free, " bytes free"), impl.JournalAdd(j, strings.Repeat("x", 8001)), impl.ErrSize)
	}
	j := journal(0, line, line, line)
	isAdded(t, j, line[:1996])
	isNotAdded(t, "one more", impl.JournalAdd(j, line[:1997]), impl.ErrFull)
}

func TestJournalsThatAreSynced(t *testing.T) {
	for _, j := range []impl.Journal{{}, journal(0, ""), journal(0, "at 1"), journal(3, "at 1", "x"), journal(7, "at 1", "x"), {Text: strings.Repeat("\n", 8000), Synced: 17}} {
		want := impl.Journal{Text: j.Text, Synced: int64(len(j.Text))}
		if got := impl.JournalSync(j); got != want {
			t.Errorf("%.80q: got %d bytes, %d synced", j.Text, len(got.Text), got.Synced)
		}
		if got := impl.JournalSync(want); got != want {
			t.Errorf("%.80q: got %d bytes, %d synced, though all was", j.Text, len(got.Text), got.Synced)
		}
	}
}

// isCrashed asks for what chapter 8 says, byte by byte, and for promise 13: what is synced stays, where it ends with a
// line, and of the rest whole lines stay, as many as are kept.
func isCrashed(t *testing.T, j impl.Journal, keep int64) impl.Journal {
	t.Helper()
	got := impl.JournalCrash(j, keep)
	end := 0
	for i := range len(j.Text) {
		left := int64(i) - j.Synced // so many bytes of the rest are ahead of it
		if j.Text[i] == '\n' && left < max(keep, 0) {
			end = i + 1
		}
	}
	want := impl.Journal{Text: j.Text[:end], Synced: int64(end)}
	if got != want {
		t.Fatalf("keep %d of %.80q, %d synced: got %.80q, %d synced, want %.80q", keep, j.Text, j.Synced, got.Text, got.Synced, want.Text)
	}
	isRightJournal(t, "crashed", got, true)
	whole := j.Synced == 0 || j.Text[j.Synced-1] == '\n'
	if whole && !strings.HasPrefix(got.Text, j.Text[:j.Synced]) {
		t.Errorf("keep %d of %.80q, %d synced: %.80q lacks what is synced", keep, j.Text, j.Synced, got.Text)
	}
	return got
}

// Promise 13, at each place of small Journals.
func TestCrashesAtEachPlace(t *testing.T) {
	for _, lines := range [][]string{{}, {""}, {"", "", ""}, {"at 1"}, {"at 1", "", "x", "drop 12"}, {"rules Zone P 1:00 - X;", "put 1 a P 2024-07-01 12:00:00 0 0", "at 1"}} {
		j := journal(0, lines...)
		many := int64(len(j.Text))
		for j.Synced = 0; j.Synced <= many; j.Synced++ {
			for keep := int64(-3); keep <= many+3; keep++ {
				isCrashed(t, j, keep)
			}
			for _, keep := range extremes {
				isCrashed(t, j, keep)
			}
		}
	}
}

// What is not synced is taken back, line by line; what is, never.
func TestACrashByHand(t *testing.T) {
	j := impl.JournalSync(journal(0, "one", "two"))
	k := isAdded(t, isAdded(t, j, "three"), "four")
	for keep, text := range map[int64]string{-1: "one\ntwo\n", 0: "one\ntwo\n", 5: "one\ntwo\n", 6: "one\ntwo\nthree\n", 10: "one\ntwo\nthree\n", 11: k.Text, 12: k.Text, 8000: k.Text} {
		if got := isCrashed(t, k, keep); got.Text != text {
			t.Errorf("keep %d: got %q, want %q", keep, got.Text, text)
		}
	}
	// Where a part of a line is synced, that part stays just with the rest of its line.
	if got := isCrashed(t, impl.Journal{Text: "one\ntwo\n", Synced: 6}, 1); got != (impl.Journal{Text: "one\n", Synced: 4}) {
		t.Errorf("got %+v", got)
	}
	if got := isCrashed(t, impl.Journal{Text: "one\ntwo\n", Synced: 6}, 2); got != (impl.Journal{Text: "one\ntwo\n", Synced: 8}) {
		t.Errorf("got %+v", got)
	}
	if got := isCrashed(t, impl.Journal{Text: "one\n", Synced: 3}, 0); got != (impl.Journal{}) {
		t.Errorf("got %+v", got)
	}
}

// isRun asks for what is told of each line, and for the Store behind them.
func isRun(t *testing.T, j impl.Journal, s impl.Store, told ...string) {
	t.Helper()
	got := impl.JournalRun(j)
	if got.Code != impl.OK || !slices.Equal(got.Told, told) {
		t.Errorf("%.80q: got %q and the code %d, want %q", j.Text, got.Told, got.Code, told)
	}
	isSameStore(t, "run", got.Store, s)
	if !impl.StoreRight(got.Store) {
		t.Errorf("%.80q: the Store is not right: %s", j.Text, storeText(got.Store))
	}
}

// A journal of all commands, and what is told of it.
var (
	runLines = []string{
		rulesLine(olderText), "put 7 a P 2026-07-01 12:00:00 0 0", "put 8 b Home 2026-03-29 02:30:00 0 0", "put 9 c Q 2026-01-01 12:00:00 0 0", "at 7", "at 8", "", "at", "drop 1",
		rulesLine(newerText), "at 7", "at 8", "find 2026-01-01 00:00:00 2026-12-31 23:59:59", "batch 1", "rules ;", "put 1 d Newer 2026-01-01 12:00:00 0 0", "batch 2", "batch 1",
		"put 1 d Newer 2026-01-01 12:00:00 0 0", "drop 8", "asof 3", "asof 4", "asof 6", "at 01", "put 1 d P x y 0 0", "find 2027-01-01 00:00:00 2026-12-31 23:59:59",
	}
	runTold = []string{
		"ok", "ok", "ok", "ok", "2026-07-01 10:00:00", "none", "?", "?", "error 5",
		"ok", "2026-07-01 11:00:00", "2026-03-28 23:30:00", "9 8 7", "ok 1", "error 10", "error 5", "ok 2", "error 10",
		"ok", "ok", "7 8 9", "1 7 8 9", "error 4", "?", "error 3", "-",
	}
)

// runStore does the lines one behind the other; those that tell a code change nothing.
func runStore(lines []string) impl.Store {
	s := impl.Store{}
	for _, line := range lines {
		if out := impl.Do(s, line); out.Code == impl.OK {
			s = out.Store
		}
	}
	return s
}

func TestAJournalThatIsRun(t *testing.T) {
	for many := range len(runLines) + 1 {
		j := journal(0, runLines[:many]...)
		isRun(t, j, runStore(runLines[:many]), runTold[:many]...)
		isRun(t, impl.JournalSync(j), runStore(runLines[:many]), runTold[:many]...)
	}
	isRun(t, impl.Journal{}, impl.Store{})
	isRun(t, journal(0, ""), impl.Store{}, "?")
	isRun(t, journal(0, "", "?", "at 1 ", " at 1", "at  1", "AT 1", "rules", "sync", "crash 1"), impl.Store{}, "?", "?", "?", "?", "?", "?", "?", "?", "?")
	isRun(t, journal(0, strings.Repeat("x", 2000), "at 1", "rules "+strings.Repeat(" ", 1994)), impl.Store{}, "?", "none", "error 3")
}

// Behind a crash, at each place, what is told is told as ahead, of the lines that are left.
func TestAJournalThatIsRunBehindACrash(t *testing.T) {
	j := journal(0, runLines...)
	j.Synced = int64(strings.Index(j.Text, "put 9"))
	least := strings.Count(j.Text[:j.Synced], "\n")
	stores := []impl.Store{}
	for many := range len(runLines) + 1 {
		stores = append(stores, runStore(runLines[:many]))
	}
	for keep := range int64(len(j.Text)) - j.Synced + 2 {
		left := isCrashed(t, j, keep)
		many := strings.Count(left.Text, "\n")
		if many < least {
			t.Fatalf("keep %d: got %d lines, and %d are synced", keep, many, least)
		}
		isRun(t, left, stores[many], runTold[:many]...)
	}
}

// A Journal of as many lines as may be, and one whose tables take long: both end soon.
func TestLongJournalsThatAreRun(t *testing.T) {
	got := impl.JournalRun(impl.Journal{Text: strings.Repeat("\n", 8000)})
	if len(got.Told) != 8000 || got.Code != impl.OK || slices.ContainsFunc(got.Told, func(told string) bool { return told != "?" }) {
		t.Errorf("got %d texts, and the code %d", len(got.Told), got.Code)
	}
	rules := "rules "
	for range 25 {
		rules += "Rule A 1 max - Jan 1 0 0 X;"
	}
	lines := []string{""}
	for i := range 12 {
		rules += fmt.Sprintf("Zone Z%d 0 A X 1961;%d A X;", i, i)
		lines = append(lines, fmt.Sprintf("put %d a Z%d 2000-01-01 12:00:00 0 0", i+1, i))
	}
	lines[0] = rules
	told := slices.Repeat([]string{"ok"}, 13)
	for range (8000 - len(journal(0, lines...).Text)) / len("at 1\n") {
		lines, told = append(lines, "at 1"), append(told, "2000-01-01 12:00:00")
	}
	isRun(t, journal(0, lines...), runStore(lines[:13]), told...)
}
