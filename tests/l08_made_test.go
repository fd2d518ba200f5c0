package tests

import (
	"fmt"
	"regexp"
	"slices"
	"strconv"
	"strings"
	"testing"

	"loop.example/g00364/impl"
)

var crashForm = regexp.MustCompile("^crash " + numberForm + "$")

// slowDesk keeps the lines of its Journal, how many of these are synced, and the Stores ahead of each line and behind
// the last one: a crash goes back to one of these.
type slowDesk struct {
	lines  []string
	synced int
	stores []impl.Store
}

func newSlowDesk() *slowDesk {
	return &slowDesk{stores: []impl.Store{{}}}
}

func (d *slowDesk) store() impl.Store {
	return d.stores[len(d.stores)-1]
}

func (d *slowDesk) told(line string) string {
	if line == "sync" {
		d.synced = len(d.lines)
		return "synced"
	}
	if words := crashForm.FindStringSubmatch(line); words != nil {
		keep, _ := strconv.Atoi(words[1])
		return d.crash(keep)
	}
	d.lines = append(d.lines, line)
	out := slowDo(d.store(), line)
	if out.Code != impl.OK {
		d.stores = append(d.stores, d.store())
		return "?"
	}
	d.stores = append(d.stores, out.Store)
	return out.Told[0]
}

func (d *slowDesk) crash(keep int) string {
	many := d.synced
	for many < len(d.lines) && keep > len(d.lines[many]) {
		keep -= len(d.lines[many]) + 1
		many++
	}
	d.lines, d.stores, d.synced = d.lines[:many], d.stores[:many+1], many
	return fmt.Sprint("lines ", many)
}

// byTheWords is what chapter 9 says, by the Journal's own calls.
func byTheWords(lines []string) []string {
	j, told := impl.Journal{}, []string{}
	for _, line := range lines {
		if line == "sync" {
			j = impl.JournalSync(j)
			told = append(told, "synced")
		} else if words := crashForm.FindStringSubmatch(line); words != nil {
			keep, _ := strconv.ParseInt(words[1], 10, 64)
			j = impl.JournalCrash(j, keep)
			told = append(told, fmt.Sprint("lines ", len(impl.JournalRun(j).Told)))
		} else if out := impl.JournalAdd(j, line); out.Code != impl.OK {
			told = append(told, "full")
		} else {
			j = out.Journal
			run := impl.JournalRun(j).Told
			told = append(told, run[len(run)-1])
		}
	}
	return told
}

// deskLine is mostly a command of such things as the desk's Store has, now and then a sync or a crash, or like one.
func (c chance) deskLine(d *slowDesk) string {
	rest := int64(len(deskText(d.lines[d.synced:]...)))
	switch c.Intn(20) {
	case 0, 1:
		return "sync"
	case 2:
		return fmt.Sprint("crash ", pick(c, 0, rest, rest+1, c.from(0, rest), c.from(0, 2000), 999999999))
	case 3:
		return strings.Map(printed, c.spoiltLine(pick(c, "sync", "crash 0", "crash 100")))
	case 4, 5:
		return strings.Map(printed, c.spoiltLine(c.line(d.store())))
	}
	return c.line(d.store())
}

// printed takes away what may not stand in a desk's text.
func printed(r rune) rune {
	if r < ' ' || r > '~' {
		return -1
	}
	return r
}

// madeDesk is of lines for which there is room, and what the slow desk tells of them.
func (c chance) madeDesk() ([]string, []string) {
	d, lines, told := newSlowDesk(), []string{}, []string{}
	for range c.from(1, 40) {
		line := c.deskLine(d)
		if len(line) > 2000 || len(deskText(append(slices.Clone(lines), line)...)) > 8000 {
			continue
		}
		lines, told = append(lines, line), append(told, d.told(line))
	}
	return lines, told
}

// deskKind is the line's first word, and what kind of text is told of it.
func deskKind(line string, told string) string {
	if strings.HasPrefix(told, "lines ") {
		return "lines"
	}
	if told == "?" || told == "synced" {
		return told
	}
	return toldKind(line, told)
}

// Promise 15, and all that a desk tells: desks of all kinds of lines, held against the slow way, and against the words.
func TestWalksOfDesks(t *testing.T) {
	c := newChance(122)
	kinds := storeKinds{}
	for i := range 500 {
		lines, told := c.madeDesk()
		isDesk(t, lines, told...)
		if many := c.Intn(len(lines) + 1); i%3 == 0 {
			isDesk(t, lines[:many], told[:many]...)
		}
		if i%5 == 0 && !slices.Equal(byTheWords(lines), told) {
			t.Errorf("%q: got %q by the words, want %q", lines, byTheWords(lines), told)
		}
		for i := range lines {
			kinds[deskKind(lines[i], told[i])]++
		}
		if t.Failed() {
			return
		}
	}
	kinds.hasAll(t, 10, "lines", "synced", "?", "put: ok", "put: error 5", "drop: error 5", "rules: ok", "rules: error 10", "batch: ok 0", "batch: ok 1", "batch: error 10", "at: none", "find: -", "find: one", "asof: one", "asof: error 4")
}

// Promise 15: the first lines tell the beginning of what all tell, be there as many as may.
func TestDesksLineByLine(t *testing.T) {
	c := newChance(123)
	for range 12 {
		lines, told := c.madeDesk()
		for many := range len(lines) + 1 {
			isDesk(t, lines[:many], told[:many]...)
		}
	}
}

// Promise 16: what is not synced a crash takes back, whatever it was: behind it all is told as where the sync was.
func TestWhatIsNotSyncedIsTakenBack(t *testing.T) {
	c := newChance(124)
	kinds := storeKinds{}
	for range 150 {
		lines, _ := c.madeDesk()
		lines = lines[:min(len(lines), 24)]
		d := newSlowDesk()
		for _, line := range lines {
			d.told(line)
		}
		asks := []string{"asof 0", "at 1", "at 7", "batch 1", "find 0001-01-01 00:00:00 9999-12-31 23:59:59"}
		taken := []string{"put 7 a Z0 2026-01-01 12:00:00 1 1", "drop 1", "drop 2", "batch 1", rulesLine(c.storeRules(d.store()))}
		want := impl.DeskRun(deskText(slices.Concat(lines, []string{"sync"}, asks)...))
		got := impl.DeskRun(deskText(slices.Concat(lines, []string{"sync"}, taken, []string{"crash 0"}, asks)...))
		if want.Code != impl.OK || got.Code != impl.OK {
			kinds["too long"]++
			continue
		}
		wanted, told := strings.Split(want.Text, "\n"), strings.Split(got.Text, "\n")
		kinds[fmt.Sprint("something was done: ", slices.ContainsFunc(told[len(lines)+1:len(lines)+6], func(one string) bool { return strings.HasPrefix(one, "ok") }))]++
		if !slices.Equal(told[len(told)-6:], wanted[len(wanted)-6:]) || told[len(told)-7] != fmt.Sprint("lines ", len(d.lines)) {
			t.Fatalf("%q: got %q, want %q", lines, told, wanted)
		}
	}
	kinds.hasAll(t, 50, "something was done: true")
}

// twoRules are of the same zones, some of whose clocks the second ones change.
func (c chance) twoRules() (impl.Release, impl.Release) {
	older := c.clockRelease(c.clockRules(3))
	newer := impl.Release{Rules: slices.Clone(older.Rules), Zones: older.Zones, Links: older.Links}
	for i := range newer.Rules {
		newer.Rules[i].At = pick(c, newer.Rules[i].At, newer.Rules[i].At, c.from(0, 86400))
		newer.Rules[i].Save = pick(c, newer.Rules[i].Save, newer.Rules[i].Save, c.from(-7200, 7200))
	}
	return older, newer
}

// isMoved asks of each Event ahead of new rules, behind them, and behind a batch. What is told is unlike just where the
// two Releases tell other instants, and so many are counted by the batch; that is, where the tables tell another number.
func (k storeKinds) isMoved(t *testing.T, older impl.Release, newer impl.Release, events []impl.Event) {
	t.Helper()
	lines, asks := []string{rulesLine(madeText(older))}, []string{}
	for _, e := range events {
		lines, asks = append(lines, putLine(e)), append(asks, fmt.Sprint("at ", e.Id))
	}
	text := deskText(slices.Concat(lines, asks, []string{rulesLine(madeText(newer))}, asks, []string{"batch 1000"}, asks)...)
	out := impl.DeskRun(text)
	if out.Code != impl.OK {
		t.Fatalf("%q: got the code %d", text, out.Code)
	}
	told := strings.Split(out.Text, "\n")[len(lines):]
	many, moved := len(asks), 0
	for i, e := range events {
		was, now, last := told[i], told[many+1+i], told[2*many+2+i]
		changed := !slices.Equal(slowMoment(older, e), slowMoment(newer, e))
		k[fmt.Sprint("changed: ", changed)]++
		if (was != now) != changed || last != now {
			t.Errorf("%q: got %q, %q and %q of the Event %d; is it changed? %v", text, was, now, last, e.Id, changed)
		}
		if changed {
			moved++
		}
		if changed && !impl.Changed(impl.TableOf(older, e.Zone).Table, impl.TableOf(newer, e.Zone).Table, e.Wall, e.Gap, e.Fold) {
			t.Errorf("%q: the Event %d is changed, and by the tables it is not", text, e.Id)
		}
	}
	if got, want := told[2*many+1], fmt.Sprint("ok ", moved); got != want {
		t.Errorf("%q: got %q of the batch, want %q", text, got, want)
	}
}

// Promise 16: new rules move just the appointments that they change.
func TestNewRulesMoveJustWhatTheyChange(t *testing.T) {
	c := newChance(125)
	kinds := storeKinds{}
	for range 400 {
		older, newer := c.twoRules()
		s := impl.Store{Now: older, Was: newer}
		events := []impl.Event{}
		for id := range c.from(1, 6) {
			e := c.storeEvent(s)
			e.Id, e.Name, e.Zone, e.Gap = id+1, "a", "Z0", c.from(0, 2)
			e.Wall = max(impl.MinTime, min(impl.MaxTime, e.Wall))
			events = append(events, e)
		}
		kinds.isMoved(t, older, newer, events)
		if t.Failed() {
			return
		}
	}
	kinds.hasAll(t, 100, "changed: true", "changed: false")
}

// A desk whose tables take long to make, with crashes between: it ends soon.
func TestDesksOfManyTables(t *testing.T) {
	rules := "rules "
	for range 25 {
		rules += "Rule A 1 max - Jan 1 0 0 X;"
	}
	for i := range 12 {
		rules += fmt.Sprintf("Zone Z%d 0 A X 1961;%d A X;", i, i)
	}
	lines, told := []string{rules}, []string{"ok"}
	for i := range 12 {
		lines, told = append(lines, fmt.Sprintf("put %d a Z%d 2000-01-01 12:00:00 0 0", i+1, i)), append(told, "ok")
	}
	for i := range 13 {
		lines, told = append(lines, "at 1", "crash 999999999"), append(told, "2000-01-01 12:00:00", fmt.Sprint("lines ", 14+i))
	}
	isDesk(t, lines, told...)
}
