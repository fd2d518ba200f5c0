package tests

import (
	"fmt"
	"slices"
	"strconv"
	"strings"
	"testing"

	"loop.example/g00364/impl"
)

// slowDo tells lines apart by the forms of the document's table, and does them by the slow ways of the store.
func slowDo(s impl.Store, line string) impl.RunOut {
	if len(line) > 8000 {
		return impl.RunOut{Code: impl.ErrSize}
	}
	if !slowRight(s) {
		return impl.RunOut{Code: impl.ErrForm}
	}
	for kind, form := range lineForms {
		if words := form.FindStringSubmatch(line); words != nil {
			after, told := slowCommand(s, kind, words[1:])
			return impl.RunOut{Store: after, Told: []string{told}}
		}
	}
	return impl.RunOut{Code: impl.ErrSyntax}
}

func slowCommand(s impl.Store, kind string, words []string) (impl.Store, string) {
	numbers := []int64{}
	for _, word := range words {
		n, _ := strconv.ParseInt(word, 10, 64)
		numbers = append(numbers, n)
	}
	switch kind {
	case "put":
		wall := impl.TimeRead(words[3] + " " + words[4])
		if wall.Code != impl.OK {
			return s, "error 3"
		}
		return slowTold(s, slowPut(s, impl.Event{Id: numbers[0], Name: words[1], Zone: words[2], Wall: wall.N, Gap: numbers[5], Fold: numbers[6]}), "ok")
	case "drop":
		return slowTold(s, slowDrop(s, numbers[0]), "ok")
	case "rules":
		return slowTold(s, slowInstall(s, strings.Join(strings.Split(words[0], ";"), "\n")), "ok")
	case "batch":
		out := slowBatch(s, numbers[0])
		return slowTold(s, out, fmt.Sprint("ok ", out.Many))
	case "at":
		return s, slowAt(s, numbers[0])
	case "find":
		return s, slowFind(s, impl.TimeRead(words[0]+" "+words[1]), impl.TimeRead(words[2]+" "+words[3]))
	}
	return s, slowAsOf(s, numbers[0])
}

func slowTold(s impl.Store, out impl.StoreOut, told string) (impl.Store, string) {
	if out.Code != impl.OK {
		return s, fmt.Sprint("error ", out.Code)
	}
	return out.Store, told
}

func slowAt(s impl.Store, id int64) string {
	for _, e := range slowLive(s.Versions) {
		for _, at := range slowMoment(s.Now, e) {
			if e.Id == id {
				return impl.TimeText(at)
			}
		}
	}
	return "none"
}

func slowFind(s impl.Store, from impl.NumOut, to impl.NumOut) string {
	if from.Code != impl.OK || to.Code != impl.OK {
		return "error 3"
	}
	found := []impl.Entry{}
	for _, e := range slowLive(s.Versions) {
		for _, at := range slowMoment(s.Now, e) {
			if at >= from.N && at <= to.N {
				found = append(found, impl.Entry{At: at, Id: e.Id})
			}
		}
	}
	slices.SortFunc(found, entryOrder)
	told := ""
	for _, entry := range found {
		told += fmt.Sprint(" ", entry.Id)
	}
	return slowIds(told)
}

func slowIds(told string) string {
	if told == "" {
		return "-"
	}
	return told[1:]
}

func slowAsOf(s impl.Store, tx int64) string {
	if tx > s.Tx {
		return "error 4"
	}
	told := ""
	for _, e := range slowLive(slices.DeleteFunc(slices.Clone(s.Versions), func(v impl.Version) bool { return v.Tx > tx })) {
		told += fmt.Sprint(" ", e.Id)
	}
	return slowIds(told)
}

// lineTime is near an entry of the Store, mostly.
func (c chance) lineTime(s impl.Store) string {
	at := c.from(impl.MinTime, impl.MaxTime)
	if found := impl.Find(s, impl.MinTime, impl.MaxTime); len(found) > 0 {
		at = pick(c, at, pick(c, found...).At+c.from(-1, 1), pick(c, found...).At)
	}
	if text := impl.TimeText(at); text != "" && c.Intn(20) > 0 {
		return text
	}
	return pick(c, "x y", "2026-02-29 00:00:00", "2026-01-01 24:00:00", "2026-01-01 00:00", "10000-01-01 00:00:00")
}

// line is a command, mostly of such things as the Store has.
func (c chance) line(s impl.Store) string {
	id := pick[int64](c, 0, 1, 2, 3, 7, 8, 9, 999999, 1000000, 1000001, c.from(1, 40), 999999999)
	switch c.Intn(14) {
	case 0, 1, 2, 3, 4:
		e := c.storeEvent(s)
		time := impl.TimeText(e.Wall)
		if time == "" || c.Intn(30) == 0 {
			time = c.lineTime(s)
		}
		return fmt.Sprintf("put %d %s %s %s %d %d", e.Id, e.Name, e.Zone, time, e.Gap, e.Fold)
	case 5:
		return fmt.Sprint("drop ", id)
	case 6, 7:
		return rulesLine(c.storeRules(s))
	case 8, 9:
		return fmt.Sprint("batch ", pick[int64](c, 0, 1, 1, 1, 2, 2, 3, 1000, 1001))
	case 10:
		return fmt.Sprint("at ", id)
	case 11, 12:
		return "find " + c.lineTime(s) + " " + c.lineTime(s)
	}
	return fmt.Sprint("asof ", pick(c, 0, s.Tx, s.Tx+1, c.from(0, s.Tx)))
}

// spoiltLine is like it, but for some bytes.
func (c chance) spoiltLine(line string) string {
	for range c.from(1, 3) {
		place := c.Intn(len(line) + 1)
		ahead, behind := line[:place], line[place:]
		switch c.Intn(4) {
		case 0:
			line = ahead + c.text(" 01;x#-", 1, 2) + behind
		case 1:
			line = ahead + behind[min(len(behind), 1):]
		case 2:
			line = ahead
		default:
			line = ahead + pick(c, "\n", "\t", "\xff", "  ", " x") + behind
		}
	}
	return line
}

// isAsDone holds what Do tells against the slow way.
func (k storeKinds) isAsDone(t *testing.T, s impl.Store, line string) impl.Store {
	t.Helper()
	before := storeText(s)
	got, want := impl.Do(s, line), slowDo(s, line)
	if got.Code != want.Code || !slices.Equal(got.Told, want.Told) || storeText(got.Store) != storeText(want.Store) {
		t.Fatalf("%q: got %q, the code %d, and\n%s, want %q, the code %d, and\n%s", line, got.Told, got.Code, storeText(got.Store), want.Told, want.Code, storeText(want.Store))
	}
	if storeText(s) != before {
		t.Fatalf("%q: the Store has become\n%s, and was\n%s", line, storeText(s), before)
	}
	if got.Code != impl.OK {
		k[fmt.Sprint("code ", got.Code)]++
		return s
	}
	k[toldKind(line, got.Told[0])]++
	return got.Store
}

// toldKind is the command, and what kind of text is told of it.
func toldKind(line string, told string) string {
	word, _, _ := strings.Cut(line, " ")
	switch {
	case word == "at" && told != "none":
		return "at: a time"
	case (word == "find" || word == "asof") && strings.Contains(told, " ") && !strings.HasPrefix(told, "error"):
		return word + ": more"
	case (word == "find" || word == "asof") && told != "-" && !strings.HasPrefix(told, "error"):
		return word + ": one"
	}
	return word + ": " + told
}

// Promise 14, and all that commands tell: walks of commands, right and spoilt, held against the slow way.
func TestWalksOfCommands(t *testing.T) {
	c := newChance(111)
	kinds := storeKinds{}
	for range 120 {
		s := impl.Store{}
		for range c.from(1, 80) {
			line := c.line(s)
			kinds.isAsDone(t, s, c.spoiltLine(line))
			s = kinds.isAsDone(t, s, line)
		}
		other := c.changed(s)
		kinds.isAsDone(t, other, c.line(s))
	}
	kinds.hasAll(t, 10, "put: ok", "put: error 1", "put: error 3", "put: error 5", "drop: ok", "drop: error 5", "rules: ok", "rules: error 1", "rules: error 3", "rules: error 5", "rules: error 10",
		"batch: ok 0", "batch: ok 1", "batch: error 1", "batch: error 10", "at: none", "at: a time", "find: -", "find: one", "find: more", "find: error 3", "asof: -", "asof: one", "asof: more", "asof: error 4",
		"code 1", "code 3")
}

// slowRun is what chapter 8 says of a run, by the slow way of each line: what is told, and the Stores ahead of each line
// and behind the last one.
func slowRun(j impl.Journal) ([]string, []impl.Store) {
	told, s := []string{}, impl.Store{}
	stores := []impl.Store{s}
	lines := strings.SplitAfter(j.Text, "\n")
	for _, line := range lines[:len(lines)-1] {
		one := slowDo(s, strings.TrimSuffix(line, "\n"))
		if one.Code == impl.OK {
			s = one.Store
			told = append(told, one.Told...)
		} else {
			told = append(told, "?")
		}
		stores = append(stores, s)
	}
	return told, stores
}

// madeJournal is of lines that are added as long as there is room, some of them no commands, now and then synced.
func (c chance) madeJournal(t *testing.T) impl.Journal {
	t.Helper()
	j := impl.Journal{}
	s := impl.Store{}
	for range c.from(1, 100) {
		line := c.line(s)
		if c.Intn(6) == 0 {
			line = c.spoiltLine(line)
		}
		out := impl.JournalAdd(j, line)
		if out.Code != impl.OK {
			continue
		}
		j = out.Journal
		if done := impl.Do(s, line); done.Code == impl.OK {
			s = done.Store
		}
		if c.Intn(10) == 0 {
			j = impl.JournalSync(j)
		}
	}
	return j
}

// Promise 13: Journals crash, and are run ahead of that and behind it.
func TestWalksOfJournals(t *testing.T) {
	c := newChance(112)
	kinds := storeKinds{}
	for range 100 {
		j := c.madeJournal(t)
		isRightJournal(t, "made", j, true)
		told, stores := slowRun(j)
		isRun(t, j, stores[len(told)], told...)
		for range 20 {
			left := isCrashed(t, j, pick(c, c.from(-3, int64(len(j.Text))), c.from(0, 200), c.from(0, 2000)))
			many := strings.Count(left.Text, "\n")
			synced := strings.Count(j.Text[:j.Synced], "\n")
			kinds[fmt.Sprint("some of the rest is left: ", many > synced, ", all: ", many == len(told))]++
			isRun(t, left, stores[many], told[:many]...)
		}
		if t.Failed() {
			return
		}
	}
	kinds.hasAll(t, 20, "some of the rest is left: true, all: false", "some of the rest is left: true, all: true", "some of the rest is left: false, all: false")
}

// Answers share no memory with what is handed in, nor with each other, whatever the command.
func TestWhatCommandsTellIsNewMemory(t *testing.T) {
	lines := append(rightLines(), rulesLine(newerText), rulesLine(olderText), "put 1 a P x y 0 0", "drop 77", "batch 1000", "at 10", "asof 900")
	for _, line := range lines {
		for what, made := range map[string]func() impl.Store{"at rest": func() impl.Store { return atRest(t) }, "on its way": func() impl.Store { return aStore(t) }} {
			s := made()
			first, second := impl.Do(s, line), impl.Do(s, line)
			want := storeText(second.Store)
			spoilStore(first.Store)
			spoilList(first.Told, "spoilt")
			isSameStore(t, line+", handed in, "+what, s, made())
			if got := storeText(second.Store); got != want || slices.Contains(second.Told, "spoilt") {
				t.Errorf("%s, %s: another answer has become\n%s, and was\n%s", line, what, got, want)
			}
			spoilStore(s)
			if got := storeText(second.Store); got != want {
				t.Errorf("%s, %s: by what was handed in the answer has become\n%s, and was\n%s", line, what, got, want)
			}
		}
	}
}

// The lists of one answer are their own, behind one command and behind many.
func TestListsOfOneRunAreTheirOwn(t *testing.T) {
	lines := []string{rulesLine(olderText), "put 7 a P 2026-07-01 12:00:00 0 0", "put 8 a Home 2026-07-01 12:00:00 0 0", rulesLine(olderText)}
	j := journal(0, lines...)
	for _, s := range []impl.Store{impl.JournalRun(j).Store, runStore(lines)} {
		was := fmt.Sprintf("%+v", s.Was)
		spoilStore(impl.Store{Now: s.Now, Versions: s.Versions, Index: s.Index})
		if got := fmt.Sprintf("%+v", s.Was); got != was || len(s.Was.Zones) != 3 {
			t.Errorf("Was has become %s, and was %s", got, was)
		}
	}
	first, second := impl.JournalRun(j), impl.JournalRun(j)
	want := storeText(second.Store)
	spoilStore(first.Store)
	spoilList(first.Told, "spoilt")
	if got := storeText(second.Store); got != want || slices.Contains(second.Told, "spoilt") {
		t.Errorf("another answer has become\n%s, and was\n%s", got, want)
	}
}
