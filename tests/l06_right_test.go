package tests

import (
	"fmt"
	"slices"
	"testing"

	"loop.example/g00364/impl"
)

// By the newer rules P has no more summers from 2025 on, Q is half an hour further east, and Home is another's link.
const (
	olderText = "Rule E 1980 max - Mar lastSun 1:00u 1:00 S\nRule E 1980 max - Oct lastSun 1:00u 0 -\n" +
		"Zone P 1:00 E CE%sT\nZone Q 2:30 - EET\nZone Older 0 - X\nLink P Home\n"
	newerText = "Rule E 1980 2024 - Mar lastSun 1:00u 1:00 S\nRule E 1980 max - Oct lastSun 1:00u 0 -\n" +
		"Zone P 1:00 E CE%sT\nZone Q 3:00 - +03\nZone Newer 0 - X\nLink Q Home\n"
)

// Wall times: by the older rules one of a gap, one of a fold and two that are shown once.
var (
	gapWall    = wallTime(2026, 3, 29, 9000)
	foldWall   = wallTime(2026, 10, 25, 9000)
	summerWall = wallTime(2026, 7, 1, 43200)
	winterWall = wallTime(2026, 1, 1, 43200)
)

func event(id int64, zone string, wall int64) impl.Event {
	return impl.Event{Id: id, Name: fmt.Sprint("e", id), Zone: zone, Wall: wall}
}

// storeText tells all of a Store; an empty list and none are told alike.
func storeText(s impl.Store) string {
	return fmt.Sprintf("%+v", s)
}

func isSameStore(t *testing.T, what string, got impl.Store, want impl.Store) {
	t.Helper()
	if storeText(got) != storeText(want) {
		t.Errorf("%s: got the Store\n%s, want\n%s", what, storeText(got), storeText(want))
	}
}

// isStored asks for the code OK, and a right Store.
func isStored(t *testing.T, out impl.StoreOut) impl.Store {
	t.Helper()
	if out.Code != impl.OK {
		t.Fatalf("got the code %d", out.Code)
	}
	if !impl.StoreRight(out.Store) {
		t.Fatalf("the Store is not right: %s", storeText(out.Store))
	}
	return out.Store
}

// isNotStored asks for a code, and nothing beside it.
func isNotStored(t *testing.T, what string, out impl.StoreOut, code int64) {
	t.Helper()
	if out.Code != code || out.Many != 0 || storeText(out.Store) != storeText(impl.Store{}) {
		t.Errorf("%s: got %+v, want nothing but the code %d", what, out, code)
	}
}

// storeOf installs a text, and puts Events one behind the other.
func storeOf(t *testing.T, text string, events ...impl.Event) impl.Store {
	t.Helper()
	s := isStored(t, impl.Install(impl.Store{}, text))
	for _, e := range events {
		s = isStored(t, impl.Put(s, e))
	}
	return s
}

// aStore has Events put, put again, dropped, and dropped and put again, and follows newer rules up to the Id 20: behind
// the Cursor 21 the entries are by the older ones. Each call makes a new one.
func aStore(t *testing.T) impl.Store {
	t.Helper()
	s := storeOf(t, olderText, event(30, "P", summerWall), event(20, "Q", winterWall), event(10, "Home", winterWall), event(5, "P", gapWall), event(40, "Home", summerWall))
	s = isStored(t, impl.Put(s, impl.Event{Id: 10, Name: "other", Zone: "Home", Wall: summerWall, Gap: 1, Fold: 2}))
	s = isStored(t, impl.Drop(s, 5))
	s = isStored(t, impl.Drop(s, 30))
	s = isStored(t, impl.Put(s, event(30, "P", summerWall)))
	s = isStored(t, impl.Install(s, newerText))
	s = isStored(t, impl.Batch(s, 2))
	return s
}

// isRightStore asks the same of all calls that take a Store.
func isRightStore(t *testing.T, what string, s impl.Store, want bool) {
	t.Helper()
	if got := impl.StoreRight(s); got != want {
		t.Errorf("%s: is it right? got %v, want %v, of\n%s", what, got, want, storeText(s))
		return
	}
	if want {
		return
	}
	for _, id := range []int64{5, 10, 20, 30, 40} {
		isNotStored(t, what+", Drop", impl.Drop(s, id), impl.ErrForm)
		if got := impl.History(s, id); len(got) > 0 {
			t.Errorf("%s: got the History %+v of %d, want none", what, got, id)
		}
	}
	isNotStored(t, what+", Put", impl.Put(s, event(20, "Q", winterWall)), impl.ErrForm)
	isNotStored(t, what+", Put", impl.Put(s, event(50, "None", winterWall)), impl.ErrForm)
	isNotStored(t, what+", Install", impl.Install(s, newerText), impl.ErrForm)
	isNotStored(t, what+", Install", impl.Install(s, "x"), impl.ErrForm)
	isNotStored(t, what+", Batch", impl.Batch(s, 1), impl.ErrForm)
	isNotStored(t, what+", Batch", impl.Batch(s, 0), impl.ErrForm)
	if got := impl.Live(s); len(got) > 0 {
		t.Errorf("%s: got %+v live, want none", what, got)
	}
	for _, tx := range []int64{-1, 0, 1, s.Tx, s.Tx + 1} {
		if got := impl.AsOf(s, tx); got.Code != impl.ErrForm || len(got.Events) > 0 {
			t.Errorf("%s: got %+v as of %d", what, got, tx)
		}
	}
	if got := impl.Find(s, impl.MinTime, impl.MaxTime); len(got) > 0 {
		t.Errorf("%s: got the entries %+v, want none", what, got)
	}
	for _, zone := range []string{"P", "Q", "Home"} {
		if got := impl.FindWall(s, zone, impl.MinTime, impl.MaxTime); len(got) > 0 {
			t.Errorf("%s: got the Events %+v, want none", what, got)
		}
	}
}

func withStore(t *testing.T, change func(*impl.Store)) impl.Store {
	t.Helper()
	s := aStore(t)
	change(&s)
	return s
}

// eachStoreNumber asks of numbers at, and one beyond, their limits, and of extreme ones.
func eachStoreNumber(t *testing.T, what string, least int64, most int64, field func(*impl.Store) *int64) {
	t.Helper()
	for _, n := range append([]int64{least - 1, least, least + 1, most - 1, most, most + 1, 0, -1, 1}, extremes...) {
		s := withStore(t, func(s *impl.Store) { *field(s) = n })
		isRightStore(t, fmt.Sprint(what, " of ", n), s, n >= least && n <= most)
	}
}

func TestTheStoreWithoutAnything(t *testing.T) {
	isRightStore(t, "the one without anything", impl.Store{}, true)
	empty := impl.Release{Rules: []impl.Rule{}, Zones: []impl.Zone{}, Links: []impl.Link{}}
	isRightStore(t, "one of empty lists", impl.Store{Now: empty, Was: empty, Versions: []impl.Version{}, Index: []impl.Entry{}}, true)
	if got := impl.Live(impl.Store{}); len(got) > 0 {
		t.Errorf("got %+v live", got)
	}
	if got := impl.AsOf(impl.Store{}, 0); got.Code != impl.OK || len(got.Events) > 0 {
		t.Errorf("got %+v as of 0", got)
	}
}

// What the other tests change by itself is right as it is, and looks as they need it.
func TestAStoreThatIsRight(t *testing.T) {
	s := aStore(t)
	isRightStore(t, "as it is", s, true)
	want := []impl.Entry{{At: summerWall - 10800, Id: 10}, {At: summerWall - 7200, Id: 30}, {At: summerWall - 7200, Id: 40}}
	want = append([]impl.Entry{{At: winterWall - 10800, Id: 20}}, want...)
	if s.Tx != 9 || s.Cursor != 21 || !slices.Equal(s.Index, want) {
		t.Errorf("got the Tx %d, the Cursor %d, the Index %v, want 9, 21, %v", s.Tx, s.Cursor, s.Index, want)
	}
	gone := []bool{}
	for i, v := range s.Versions {
		gone = append(gone, v.Gone)
		if v.Tx != int64(i+1) {
			t.Errorf("the Version %d has the Tx %d", i, v.Tx)
		}
	}
	if !slices.Equal(gone, []bool{false, false, false, false, false, false, true, true, false}) {
		t.Errorf("got Gone of %v", gone)
	}
}

func TestTheTxsOfAStore(t *testing.T) {
	eachStoreNumber(t, "Tx", 9, 900000, func(s *impl.Store) *int64 { return &s.Tx })
	eachStoreNumber(t, "the first Version's", 1, 1, func(s *impl.Store) *int64 { return &s.Versions[0].Tx })
	eachStoreNumber(t, "the fourth Version's", 4, 4, func(s *impl.Store) *int64 { return &s.Versions[3].Tx })
	eachStoreNumber(t, "the last Version's", 9, 9, func(s *impl.Store) *int64 { return &s.Versions[8].Tx })
	// Txs need not follow each other: between 3 and 90, and between 4 and 90, there is room.
	later := func(s *impl.Store) {
		for i := range s.Versions {
			s.Versions[i].Tx *= 10
		}
		s.Tx = 100
	}
	isRightStore(t, "tenfold Txs", withStore(t, later), true)
	for tx, right := range map[int64]bool{-30: false, 0: false, 29: false, 30: false, 31: true, 49: true, 50: false, 51: false, 100: false} {
		s := withStore(t, later)
		s.Versions[3].Tx = tx
		isRightStore(t, fmt.Sprint("the fourth's of ", tx), s, right)
	}
	for tx, right := range map[int64]bool{-1: false, 0: false, 1: true, 19: true, 20: false} {
		s := withStore(t, later)
		s.Versions[0].Tx = tx
		isRightStore(t, fmt.Sprint("the first's of ", tx), s, right)
	}
	for tx, right := range map[int64]bool{79: false, 80: false, 81: true, 100: true, 101: false} {
		s := withStore(t, later)
		s.Versions[8].Tx = tx
		isRightStore(t, fmt.Sprint("the last's of ", tx), s, right)
	}
	// Without Versions any Tx may be.
	for _, tx := range append([]int64{-1, 0, 1, 899999, 900000, 900001}, extremes...) {
		isRightStore(t, fmt.Sprint("nothing but Tx ", tx), impl.Store{Tx: tx}, tx >= 0 && tx <= 900000)
	}
}

func TestTheCursorOfAStore(t *testing.T) {
	// The entries are those of a Cursor behind 20, up to 30: the other Ids' are unlike by both rules.
	eachStoreNumber(t, "Cursor", 21, 30, func(s *impl.Store) *int64 { return &s.Cursor })
	was := impl.ReleaseRead(olderText).Release
	for _, cursor := range append([]int64{-1, 0, 1, 2, 1000000, 1000001, 1000002}, extremes...) {
		s := impl.Store{Cursor: cursor}
		isRightStore(t, fmt.Sprint("nothing but the Cursor ", cursor), s, cursor >= 0 && cursor <= 1000001)
		s.Was = was
		isRightStore(t, fmt.Sprint("Was, and the Cursor ", cursor), s, cursor >= 1 && cursor <= 1000001)
	}
	// With Cursor 0 Was has nothing, not one of a kind.
	for _, some := range []impl.Release{{Rules: was.Rules}, {Zones: was.Zones[2:]}, {Rules: was.Rules[:1], Zones: was.Zones[:1], Links: was.Links}} {
		isRightStore(t, "some of Was, and the Cursor 0", impl.Store{Was: some}, false)
		isRightStore(t, "some of Was, and the Cursor 1", impl.Store{Was: some, Cursor: 1}, true)
		isRightStore(t, "some of Now, and the Cursor 0", impl.Store{Now: some}, true)
	}
	// By both rules alike: any Cursor does, as the entries are the same.
	s := storeOf(t, olderText, event(7, "P", winterWall), event(9, "P", winterWall))
	s = isStored(t, impl.Install(s, newerText))
	for _, cursor := range []int64{1, 6, 7, 8, 9, 10, 1000001} {
		s.Cursor = cursor
		isRightStore(t, fmt.Sprint("the Cursor ", cursor), s, true)
	}
}

// The Releases of a Store are changed by themselves: to ones that are not right, to ones without a live Event's Zone,
// and to ones by which the entries are others.
func TestTheReleasesOfAStore(t *testing.T) {
	fields := map[string]func(*impl.Store) *impl.Release{
		"Now": func(s *impl.Store) *impl.Release { return &s.Now },
		"Was": func(s *impl.Store) *impl.Release { return &s.Was },
	}
	changes := map[string]func(*impl.Release){
		"without anything":             func(r *impl.Release) { *r = impl.Release{} },
		"without a Link":               func(r *impl.Release) { r.Links = nil },
		"without a Rule":               func(r *impl.Release) { r.Rules = r.Rules[1:] },
		"without a Rule that is named": func(r *impl.Release) { r.Rules = nil },
		"without P":                    func(r *impl.Release) { r.Zones[0].Name = "O" },
		"without Q":                    func(r *impl.Release) { r.Zones[1].Name = "O" },
		"without an Era":               func(r *impl.Release) { r.Zones[2].Eras = nil },
		"with another offset of P":     func(r *impl.Release) { r.Zones[0].Eras[0].Offset++ },
		"with another offset of Q":     func(r *impl.Release) { r.Zones[1].Eras[0].Offset++ },
		"with another Link":            func(r *impl.Release) { r.Links[0].To = pickOther(r.Links[0].To, "P", "Q") },
		"with a wrong Rule":            func(r *impl.Release) { r.Rules[0].Month = 13 },
		"with a wrong Era":             func(r *impl.Release) { r.Zones[2].Eras[0].Format = "" },
		"with a wrong Link":            func(r *impl.Release) { r.Links = append(r.Links, impl.Link{To: "None", Name: "A"}) },
		"with 13 Zones":                func(r *impl.Release) { r.Zones = append(r.Zones, manyOf(0, 10, 1, 0).Zones...) },
	}
	stays := map[string]map[string]bool{
		// Behind the Cursor just P and Home are asked by Was, ahead of it just Q and Home by Now.
		"Now": {"with another offset of P": true, "without a Rule": true},
		"Was": {"with another offset of Q": true},
	}
	for field, of := range fields {
		for what, change := range changes {
			s := withStore(t, func(s *impl.Store) { change(of(s)) })
			isRightStore(t, field+" "+what, s, stays[field][what])
		}
	}
	more := map[string]func(*impl.Release){
		"with another Zone": func(r *impl.Release) { r.Zones = append(r.Zones, impl.Zone{Name: "O", Eras: []impl.Era{aLast}}) },
		"with another Rule": func(r *impl.Release) { r.Rules = append(r.Rules, aRuleBut(func(r *impl.Rule) { r.Name = "O" })) },
		"with another Link": func(r *impl.Release) { r.Links = append(r.Links, impl.Link{To: "Q", Name: "O"}) },
		"with P another's":  func(r *impl.Release) { r.Zones[0].Eras[0].Format = "O" },
	}
	for field, of := range fields {
		for what, change := range more {
			isRightStore(t, field+" "+what, withStore(t, func(s *impl.Store) { change(of(s)) }), true)
		}
	}
}

// Without live Events, which need their Zones, a Release that is not right is a fault, too.
func TestTheReleasesOfAStoreWithoutEvents(t *testing.T) {
	right := impl.ReleaseRead(olderText).Release
	wrongs := map[string]impl.Release{
		"a Rule": withRule(func(r *impl.Rule) { r.Month = 13 }),
		"an Era": withEra(func(e *impl.Era) { e.Format = "" }),
		"a Link": {Links: right.Links},
		"a Zone": {Zones: []impl.Zone{{Name: "P"}}},
		"a name": {Zones: right.Zones},
		"many":   {Rules: manyOf(41, 0, 0, 0).Rules},
	}
	for what, wrong := range wrongs {
		isRightStore(t, "Now with a wrong one: "+what, impl.Store{Now: wrong}, false)
		isRightStore(t, "Now with a wrong one: "+what, impl.Store{Now: wrong, Was: right, Cursor: 1}, false)
		isRightStore(t, "Was with a wrong one: "+what, impl.Store{Now: right, Was: wrong, Cursor: 1}, false)
		isRightStore(t, "Was with a wrong one: "+what, impl.Store{Was: wrong, Cursor: 1000001}, false)
	}
	isRightStore(t, "both right", impl.Store{Now: right, Was: aRelease(), Cursor: 1}, true)
}

func pickOther(one string, a string, b string) string {
	if one == a {
		return b
	}
	return a
}

// A live Event's Zone must be there: Zones that just one has, and Events that are no more.
func TestTheZonesOfLiveEvents(t *testing.T) {
	s := storeOf(t, olderText, event(1, "Older", 0))
	isRightStore(t, "a Zone that Now has", s, true)
	newer := impl.ReleaseRead(newerText).Release
	s.Now = newer
	isRightStore(t, "a Zone that Now has not", s, false)
	s.Cursor, s.Was = 1, impl.ReleaseRead(olderText).Release
	isRightStore(t, "a Zone that just Was has", s, false)
	s.Now, s.Was = s.Was, s.Now
	isRightStore(t, "a Zone that just Now has", s, false)
	s.Cursor = 2
	isRightStore(t, "a Zone that just Now has, ahead of the Cursor", s, false)
	s.Was = s.Now
	isRightStore(t, "a Zone that both have", s, true)
	s = isStored(t, impl.Drop(s, 1))
	s.Now, s.Was = newer, newer
	isRightStore(t, "a Zone that neither has, of an Event that is no more", s, true)
	isRightStore(t, "such a Zone, and nothing else", impl.Store{Tx: 2, Versions: s.Versions}, true)
	s = storeOf(t, olderText, event(1, "Older", 0), event(1, "P", 0))
	s.Now = newer
	isRightStore(t, "a Zone that Now has not, of an Event that was put again", s, true)
}
