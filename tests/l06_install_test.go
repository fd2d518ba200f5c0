package tests

import (
	"fmt"
	"slices"
	"strings"
	"testing"

	"loop.example/g00364/impl"
)

// isInstalled holds a Store behind Install against chapter 7: just the Releases and the Cursor are others.
func isInstalled(t *testing.T, s impl.Store, text string) impl.Store {
	t.Helper()
	before := storeText(s)
	out := impl.Install(s, text)
	after := isStored(t, out)
	want := s
	want.Now = impl.ReleaseRead(text).Release
	if len(impl.Live(s)) > 0 {
		want.Was, want.Cursor = s.Now, 1
	}
	isSameStore(t, "installed", after, want)
	if out.Many != 0 {
		t.Errorf("got Many of %d", out.Many)
	}
	if storeText(s) != before {
		t.Errorf("Install has made\n%s of\n%s", storeText(s), before)
	}
	return after
}

func TestInstallWithAndWithoutLiveEvents(t *testing.T) {
	s := isInstalled(t, impl.Store{}, "")
	isSameStore(t, "the empty text", s, impl.Store{})
	s = isInstalled(t, s, olderText)
	s = isInstalled(t, s, newerText)
	s = isInstalled(t, s, "# nothing\n")
	s = isInstalled(t, s, olderText)
	if s.Cursor != 0 || len(s.Was.Zones) > 0 || s.Tx != 0 {
		t.Errorf("got %s", storeText(s))
	}
	s = isPut(t, s, event(1, "Older", 0))
	s = isDropped(t, s, 1)
	// The Event that is no more need not have its Zone.
	s = isInstalled(t, s, newerText)
	s = isPut(t, s, event(5, "P", winterWall))
	s = isInstalled(t, s, olderText)
	if s.Cursor != 1 || len(s.Was.Zones) != 3 || s.Was.Zones[2].Name != "Newer" {
		t.Errorf("got %s", storeText(s))
	}
	s = isStored(t, impl.Batch(s, 1))
	s = isInstalled(t, s, newerText)
	// The same text once more is new rules, too.
	isInstalled(t, isStored(t, impl.Batch(s, 1)), newerText)
}

func TestInstallOfTextsThatAreRefused(t *testing.T) {
	long := strings.Repeat("#", impl.MaxBytes-1) + "\n"
	refused := map[string]int64{
		"x": impl.ErrSyntax, "x\n": impl.ErrSyntax, olderText + "Zone": impl.ErrSyntax, strings.TrimSuffix(olderText, "\n"): impl.ErrSyntax, "Rule x\n": impl.ErrSyntax,
		"Link A B\n": impl.ErrForm, olderText + "Zone P 0 - X\n": impl.ErrForm, "Zone P 0 None X\n": impl.ErrForm,
		long + "\n": impl.ErrSize, long + "x": impl.ErrSize, strings.Repeat("x", impl.MaxBytes+1): impl.ErrSize,
	}
	stores := map[string]impl.Store{"nothing": {}, "rules": storeOf(t, newerText), "an Event": storeOf(t, olderText, event(1, "Home", 0)), "one that has no instant": storeOf(t, olderText, event(1, "P", gapWall)), "the last Tx": {Tx: 900000}}
	for what, s := range stores {
		for text, code := range refused {
			isNotStored(t, fmt.Sprintf("%s, %.40q", what, text), impl.Install(s, text), code)
		}
	}
	isInstalled(t, impl.Store{}, long)
	s := stores["an Event"]
	for _, text := range []string{"", long, "Zone P 0 - X\n", "Zone P 0 - X\nLink P home\n", strings.Replace(olderText, "Link P Home\n", "", 1), "Rule Home 1980 max - Mar lastSun 1:00u 1:00 S\n"} {
		isNotStored(t, fmt.Sprintf("without Home, %.40q", text), impl.Install(s, text), impl.ErrNone)
	}
	for _, text := range []string{"Zone Home 0 - X\n", "Zone Q 0 - X\nLink Q Home\n", newerText, olderText} {
		isInstalled(t, s, text)
	}
	// Each live Event counts, whatever its Id, also one without an instant.
	isNotStored(t, "without P", impl.Install(stores["one that has no instant"], "Zone Q 0 - X\n"), impl.ErrNone)
	s = storeOf(t, olderText, event(1, "P", 0), event(2, "Q", 0), event(3, "Home", 0), event(4, "Older", 0))
	for _, text := range []string{"Zone P 0 - X\nZone Q 0 - X\nZone Home 0 - X\n", "Zone P 0 - X\nZone Q 0 - X\nZone Older 0 - X\n", "Zone P 0 - X\nZone Home 0 - X\nZone Older 0 - X\n", "Zone Q 0 - X\nZone Home 0 - X\nZone Older 0 - X\n"} {
		isNotStored(t, "without one", impl.Install(s, text), impl.ErrNone)
		isInstalled(t, s, text+"Zone All 0 - X\nLink All "+[]string{"Older", "Home", "Q", "P"}[missing(text, "Older", "Home", "Q", "P")]+"\n")
	}
}

// missing is the place of the first Zone that a text has not.
func missing(text string, zones ...string) int {
	return slices.IndexFunc(zones, func(zone string) bool { return !strings.Contains(text, "Zone "+zone+" ") })
}

// The Cursor is asked ahead of the text, and the text's size ahead of all.
func TestInstallOnTheWayToNewerRules(t *testing.T) {
	s := aStore(t)
	for _, text := range []string{"", olderText, newerText, "x", "Link A B\n"} {
		isNotStored(t, "on the way", impl.Install(s, text), impl.ErrState)
		isNotStored(t, "on the way, without Events", impl.Install(impl.Store{Cursor: 1}, text), impl.ErrState)
		isNotStored(t, "on the way, at the end", impl.Install(impl.Store{Cursor: 1000001}, text), impl.ErrState)
		wrong := s
		wrong.Tx = -1
		isNotStored(t, "a wrong Store", impl.Install(wrong, text), impl.ErrForm)
	}
	wrong := s
	wrong.Tx = -1
	long := strings.Repeat("\n", impl.MaxBytes+1)
	isNotStored(t, "a long text, on the way", impl.Install(s, long), impl.ErrSize)
	isNotStored(t, "a long text, a wrong Store", impl.Install(wrong, long), impl.ErrSize)
	isNotStored(t, "a text as long as may be, on the way", impl.Install(s, long[1:]), impl.ErrState)
	isNotStored(t, "a text as long as may be, a wrong Store", impl.Install(wrong, long[1:]), impl.ErrForm)
}

// isBatch asks for Many, the Cursor, and the Ids whose entries are by the newer rules then.
func isBatch(t *testing.T, s impl.Store, most int64, many int64, cursor int64) impl.Store {
	t.Helper()
	before := storeText(s)
	out := impl.Batch(s, most)
	after := isStored(t, out)
	want := s
	want.Cursor, want.Index = cursor, after.Index
	if cursor == 0 {
		want.Was = impl.Release{}
	}
	isSameStore(t, fmt.Sprint("a batch of ", most), after, want)
	if out.Many != many {
		t.Errorf("a batch of %d, from %d on: got Many of %d, want %d", most, s.Cursor, out.Many, many)
	}
	if storeText(s) != before {
		t.Errorf("Batch has made\n%s of\n%s", storeText(s), before)
	}
	return after
}

// fiveEvents: by the newer rules those of 1, 4 and 1000000 have other instants.
func fiveEvents(t *testing.T) impl.Store {
	t.Helper()
	s := storeOf(t, olderText, event(4, "Q", winterWall), event(1, "P", summerWall), event(2, "P", winterWall), event(1000000, "Home", winterWall), event(9, "P", winterWall))
	return isInstalled(t, s, newerText)
}

// Promise 11, by hand: as many steps as there must be, and what each of them counts.
func TestBatchesOfAllSizes(t *testing.T) {
	ids := []int64{1, 2, 4, 9, 1000000}
	changed := []int64{1, 0, 1, 0, 1}
	for _, most := range []int64{1, 2, 3, 4, 5, 6, 30, 999, 1000} {
		s := fiveEvents(t)
		steps := 0
		for first := 0; first < len(ids); first += int(most) {
			next := min(first+int(most), len(ids))
			many := int64(0)
			for _, n := range changed[first:next] {
				many += n
			}
			cursor := ids[next-1] + 1
			if next == len(ids) {
				cursor = 0
			}
			s = isBatch(t, s, most, many, cursor)
			steps++
		}
		if want := (len(ids) + int(most) - 1) / int(most); steps != want {
			t.Errorf("%d steps of %d, want %d", steps, most, want)
		}
		if want := impl.Find(s, impl.MinTime, impl.MaxTime); !slices.Equal(s.Index, want) {
			t.Errorf("got the Index %v, want %v", s.Index, want)
		}
		isNotStored(t, "behind the last one", impl.Batch(s, most), impl.ErrState)
	}
}

func TestTheIndexBetweenBatches(t *testing.T) {
	s := fiveEvents(t)
	older := map[int64]int64{1: summerWall - 7200, 2: winterWall - 3600, 4: winterWall - 9000, 9: winterWall - 3600, 1000000: winterWall - 3600}
	newer := map[int64]int64{1: summerWall - 3600, 2: winterWall - 3600, 4: winterWall - 10800, 9: winterWall - 3600, 1000000: winterWall - 10800}
	for _, step := range []struct{ many, cursor int64 }{{0, 1}, {1, 2}, {0, 3}, {1, 5}, {0, 10}, {1, 0}} {
		if step.cursor != 1 {
			s = isBatch(t, s, 1, step.many, step.cursor)
		}
		want := []impl.Entry{}
		for id, at := range older {
			if step.cursor == 0 || id < step.cursor {
				at = newer[id]
			}
			want = append(want, impl.Entry{At: at, Id: id})
		}
		slices.SortFunc(want, entryOrder)
		if !slices.Equal(s.Index, want) {
			t.Errorf("at the Cursor %d: got the Index %v, want %v", step.cursor, s.Index, want)
		}
		// What is found is by the newer rules at once.
		found := []impl.Entry{}
		for id, at := range newer {
			found = append(found, impl.Entry{At: at, Id: id})
		}
		slices.SortFunc(found, entryOrder)
		if got := impl.Find(s, impl.MinTime, impl.MaxTime); !slices.Equal(got, found) {
			t.Errorf("at the Cursor %d: got %v, want %v", step.cursor, got, found)
		}
	}
}

func entryOrder(a impl.Entry, b impl.Entry) int {
	if a.At != b.At {
		return int(a.At - b.At)
	}
	return int(a.Id - b.Id)
}

func TestBatchesOfWrongSizes(t *testing.T) {
	for what, s := range map[string]impl.Store{"on the way": aStore(t), "there": storeOf(t, olderText, event(1, "P", 0)), "nothing": {}} {
		for _, most := range append([]int64{-1, 0, 1001, 1002}, extremes...) {
			isNotStored(t, fmt.Sprint(what, ", a batch of ", most), impl.Batch(s, most), impl.ErrForm)
		}
		if s.Cursor > 0 {
			continue
		}
		for _, most := range []int64{1, 2, 1000} {
			isNotStored(t, fmt.Sprint(what, ", a batch of ", most), impl.Batch(s, most), impl.ErrState)
		}
	}
}

// Events come and go between two batches: those ahead of the Cursor are not found anew, those behind it are.
func TestPutAndDropBetweenBatches(t *testing.T) {
	s := isBatch(t, fiveEvents(t), 2, 1, 3)
	s = isPut(t, s, event(1, "Q", summerWall))
	s = isPut(t, s, event(3, "Q", summerWall))
	s = isPut(t, s, event(10, "P", summerWall))
	s = isDropped(t, s, 2)
	s = isDropped(t, s, 4)
	s = isPut(t, s, event(9, "Home", summerWall))
	s = isBatch(t, s, 2, 2, 10)
	s = isPut(t, s, event(8, "Q", summerWall))
	s = isBatch(t, s, 1, 1, 11)
	s = isDropped(t, s, 1000000)
	// There is none left.
	s = isBatch(t, s, 1, 0, 0)
	isLive(t, "all", s, event(1, "Q", summerWall), event(3, "Q", summerWall), event(8, "Q", summerWall), event(9, "Home", summerWall), event(10, "P", summerWall))
}

func TestBatchesWithoutEvents(t *testing.T) {
	was := impl.ReleaseRead(olderText).Release
	for _, cursor := range []int64{1, 2, 1000, 1000000, 1000001} {
		isBatch(t, impl.Store{Cursor: cursor}, 1, 0, 0)
		isBatch(t, impl.Store{Cursor: cursor, Was: was}, 1000, 0, 0)
	}
	s := isInstalled(t, storeOf(t, olderText, event(1, "P", summerWall), event(2, "P", summerWall)), newerText)
	s = isDropped(t, isDropped(t, s, 1), 2)
	if s.Cursor != 1 || len(s.Was.Zones) != 3 {
		t.Errorf("Drop of the last live Event has changed more: %s", storeText(s))
	}
	s = isBatch(t, s, 1, 0, 0)
	isInstalled(t, s, olderText)
	// The Cursor is behind all Ids.
	s = isInstalled(t, storeOf(t, olderText, event(1000000, "P", winterWall)), newerText)
	s.Cursor = 1000001
	isBatch(t, s, 1, 0, 0)
	s.Cursor = 1000000
	isBatch(t, s, 1, 0, 0)
}

// Many counts an Event that has an instant by the one alone, but not one that has none by both, whatever the codes.
func TestManyOfEventsWithoutAnInstant(t *testing.T) {
	plain := "Zone P 1:00 - X\n"
	inGap, inFold := event(1, "P", gapWall), event(1, "P", foldWall)
	chosenGap, chosenFold := inGap, inFold
	chosenGap.Gap, chosenFold.Fold = 1, 2
	folded := "Zone P 2:00 - X 2026 Mar 29 3:00\n1:00 - X\n"
	full := "Zone P 1:00 E X\n"
	for i := range 26 {
		full = fmt.Sprintf("Rule E 1 max - Jan %d 0 0 A\n", i+1) + full
	}
	rows := []struct {
		what  string
		older string
		newer string
		event impl.Event
		many  int64
	}{
		{"a gap that goes", olderText, plain, inGap, 1},
		{"a gap that comes", plain, olderText, inGap, 1},
		{"a gap that goes, by the offset ahead", olderText, plain, chosenGap, 0},
		{"a gap that comes, by the offset ahead", plain, olderText, chosenGap, 0},
		{"a gap that stays", olderText, olderText, inGap, 0},
		{"a gap that stays, by the offset ahead", olderText, olderText, chosenGap, 0},
		{"a fold that goes", olderText, plain, inFold, 1},
		{"a fold that comes", plain, olderText, inFold, 1},
		{"a fold that goes, of its last instant", olderText, plain, chosenFold, 0},
		{"a gap that becomes a fold", olderText, folded, inGap, 0},
		{"a fold that becomes a gap", folded, olderText, inGap, 0},
		{"a gap that becomes a full table", olderText, full, inGap, 0},
		{"a full table that becomes a gap", full, olderText, inGap, 0},
		{"a full table that stays", full, full, chosenGap, 0},
		{"an instant that goes by a full table", plain, full, event(1, "P", 0), 1},
		{"an instant that comes behind a full table", full, plain, event(1, "P", 0), 1},
		{"the instant 0 that goes", plain, full, event(1, "P", 3600), 1},
		{"the instant 0 that comes", full, plain, event(1, "P", 3600), 1},
		{"the instant 0 that stays", plain, olderText, event(1, "P", 3600), 0},
		{"the first instant that goes", plain, "Zone P 1:00:01 - X\n", event(1, "P", impl.MinTime+3600), 1},
		{"none that stays beyond the first instant", plain, "Zone P 1:00:01 - X\n", event(1, "P", impl.MinTime+3599), 0},
		{"another instant", plain, "Zone P 1:00:01 - X\n", event(1, "P", 0), 1},
		{"another abbreviation", plain, "Zone P 1:00 - Y\n", event(1, "P", 0), 0},
	}
	for _, row := range rows {
		s := isInstalled(t, storeOf(t, row.older, row.event), row.newer)
		if got := impl.Batch(s, 1); got.Code != impl.OK || got.Many != row.many {
			t.Errorf("%s: got Many of %d and the code %d, want %d", row.what, got.Many, got.Code, row.many)
		}
		isBatch(t, s, 1000, row.many, 0)
	}
	isTableCode(t, "full", impl.ReleaseRead(full).Release, "P", impl.ErrFull)
	if got := impl.Resolve(impl.TableOf(impl.ReleaseRead(folded).Release, "P").Table, gapWall, 0, 0); got != none(impl.ErrFold) {
		t.Errorf("got %+v, want a fold", got)
	}
}
