package tests

import (
	"fmt"
	"slices"
	"testing"

	"loop.example/g00364/impl"
)

func isLive(t *testing.T, what string, s impl.Store, want ...impl.Event) {
	t.Helper()
	if got := impl.Live(s); !slices.Equal(got, want) {
		t.Errorf("%s: got %+v live, want %+v", what, got, want)
	}
}

func isAsOf(t *testing.T, s impl.Store, tx int64, want ...impl.Event) {
	t.Helper()
	if got := impl.AsOf(s, tx); got.Code != impl.OK || !slices.Equal(got.Events, want) {
		t.Errorf("as of %d: got %+v, want %+v", tx, got, want)
	}
}

func isHistory(t *testing.T, s impl.Store, id int64, want ...impl.Version) {
	t.Helper()
	if got := impl.History(s, id); !slices.Equal(got, want) {
		t.Errorf("the history of %d: got %+v, want %+v", id, got, want)
	}
}

func put(tx int64, e impl.Event) impl.Version {
	return impl.Version{Tx: tx, Event: e}
}

func gone(tx int64, e impl.Event) impl.Version {
	return impl.Version{Tx: tx, Gone: true, Event: e}
}

// Promise 10: the Event is live, nothing but it is new, what was said ahead is told as ahead, and the Store is right.
func isPut(t *testing.T, s impl.Store, e impl.Event) impl.Store {
	t.Helper()
	before := storeText(s)
	after := isStored(t, impl.Put(s, e))
	want := slices.DeleteFunc(impl.Live(s), func(other impl.Event) bool { return other.Id == e.Id })
	want = append(want, e)
	slices.SortFunc(want, func(a impl.Event, b impl.Event) int { return int(a.Id - b.Id) })
	isLive(t, "put", after, want...)
	isHistory(t, after, e.Id, append(impl.History(s, e.Id), put(s.Tx+1, e))...)
	isOneTxMore(t, s, after, put(s.Tx+1, e))
	if storeText(s) != before {
		t.Errorf("Put has made\n%s of\n%s", storeText(s), before)
	}
	return after
}

// isOneTxMore asks that a Version stands behind the others, and that the rest is as it was; the Index is asked for by
// StoreRight.
func isOneTxMore(t *testing.T, s impl.Store, after impl.Store, last impl.Version) {
	t.Helper()
	for _, tx := range txsOf(s) {
		isAsOf(t, after, tx, impl.AsOf(s, tx).Events...)
	}
	isAsOf(t, after, s.Tx+1, impl.Live(after)...)
	want := s
	want.Tx, want.Index = s.Tx+1, after.Index
	want.Versions = append(slices.Clone(s.Versions), last)
	isSameStore(t, "one Tx more", after, want)
}

// txsOf are the first and the last one, and those at, and ahead of, each Version's.
func txsOf(s impl.Store) []int64 {
	txs := []int64{0, s.Tx}
	for _, v := range s.Versions {
		txs = append(txs, v.Tx-1, v.Tx)
	}
	slices.Sort(txs)
	return slices.Compact(txs)
}

func isDropped(t *testing.T, s impl.Store, id int64) impl.Store {
	t.Helper()
	before := storeText(s)
	after := isStored(t, impl.Drop(s, id))
	want := []impl.Event{}
	last := impl.Version{}
	for _, e := range impl.Live(s) {
		if e.Id == id {
			last = gone(s.Tx+1, e)
		} else {
			want = append(want, e)
		}
	}
	isLive(t, "dropped", after, want...)
	isHistory(t, after, id, append(impl.History(s, id), last)...)
	isOneTxMore(t, s, after, last)
	if storeText(s) != before {
		t.Errorf("Drop has made\n%s of\n%s", storeText(s), before)
	}
	return after
}

// Promise 10, by hand.
func TestPutAndDrop(t *testing.T) {
	a, b, c := event(7, "P", winterWall), event(3, "Home", winterWall), event(1000000, "Q", summerWall)
	s := isStored(t, impl.Install(impl.Store{}, olderText))
	s = isPut(t, s, a)
	s = isPut(t, s, b)
	s = isPut(t, s, c)
	isLive(t, "all", s, b, a, c)
	want := []impl.Entry{{At: winterWall - 3600, Id: 3}, {At: winterWall - 3600, Id: 7}, {At: summerWall - 9000, Id: 1000000}}
	if !slices.Equal(s.Index, want) {
		t.Errorf("got the Index %v, want %v", s.Index, want)
	}
	other := impl.Event{Id: 7, Name: "other", Zone: "Q", Wall: winterWall, Gap: 2, Fold: 1}
	s = isPut(t, s, other)
	isLive(t, "put again", s, b, other, c)
	s = isDropped(t, s, 7)
	isLive(t, "dropped", s, b, c)
	s = isPut(t, s, a)
	s = isPut(t, s, a)
	isLive(t, "put once more", s, b, a, c)
	isHistory(t, s, 7, put(1, a), put(4, other), gone(5, other), put(6, a), put(7, a))
	isHistory(t, s, 3, put(2, b))
	isHistory(t, s, 1000000, put(3, c))
	for _, id := range append([]int64{0, -1, 1, 2, 4, 6, 8, 999999, 1000001}, extremes...) {
		isHistory(t, s, id)
		isNotStored(t, fmt.Sprint("Drop of ", id), impl.Drop(s, id), impl.ErrNone)
	}
	told := [][]impl.Event{{}, {a}, {b, a}, {b, a, c}, {b, other, c}, {b, c}, {b, a, c}, {b, a, c}}
	for tx, want := range told {
		isAsOf(t, s, int64(tx), want...)
	}
	for _, id := range []int64{3, 7, 1000000} {
		s = isDropped(t, s, id)
		isNotStored(t, "Drop of one that is no more", impl.Drop(s, id), impl.ErrNone)
	}
	isLive(t, "none", s)
	if s.Tx != 10 || len(s.Index) > 0 {
		t.Errorf("got the Tx %d and the Index %v, want 10 and none", s.Tx, s.Index)
	}
}

func TestAsOfBeyondAllTxs(t *testing.T) {
	s := aStore(t)
	for _, tx := range append([]int64{-2, -1, 10, 11, 900000, 900001}, extremes...) {
		if got := impl.AsOf(s, tx); got.Code != impl.ErrRange || len(got.Events) > 0 {
			t.Errorf("as of %d: got %+v, want nothing but the code %d", tx, got, impl.ErrRange)
		}
	}
	// Between the Txs of Versions, and behind the last one, it is as of the last one ahead.
	first := impl.AsOf(s, 1).Events
	for i := range s.Versions {
		s.Versions[i].Tx *= 100
	}
	s.Tx = 950
	for tx := range int64(100) {
		isAsOf(t, s, tx)
		isAsOf(t, s, 100+tx, first...)
	}
	isAsOf(t, s, 899, impl.AsOf(s, 800).Events...)
	for _, tx := range []int64{900, 901, 949, 950} {
		isAsOf(t, s, tx, impl.Live(s)...)
	}
	if got := impl.AsOf(s, 951); got.Code != impl.ErrRange || len(got.Events) > 0 {
		t.Errorf("as of 951: got %+v", got)
	}
	isAsOf(t, impl.Store{Tx: 900000}, 900000)
	if got := impl.AsOf(impl.Store{Tx: 900000}, 900001); got.Code != impl.ErrRange {
		t.Errorf("as of 900001: got %+v", got)
	}
}

// Each field of an Event at its limits, and one beyond.
func TestPutOfEventsAtTheirLimits(t *testing.T) {
	right, wrong := eventChanges()
	stores := map[string]impl.Store{"older rules alone": storeOf(t, olderText), "on the way to newer rules": aStore(t), "at the limit of Txs": {Tx: 900000, Now: impl.ReleaseRead(olderText).Release}}
	for what, s := range stores {
		for change, made := range wrong {
			e := event(20, "Q", winterWall)
			made(&e)
			isNotStored(t, what+", "+change, impl.Put(s, e), impl.ErrForm)
		}
		for change, made := range right {
			e := event(20, "Q", winterWall)
			made(&e)
			if s.Tx == 900000 {
				isNotStored(t, what+", "+change, impl.Put(s, e), impl.ErrFull)
				continue
			}
			isPut(t, s, e)
		}
		isNotStored(t, what+", the Event without anything", impl.Put(s, impl.Event{}), impl.ErrForm)
	}
	for zone, code := range map[string]int64{"P": impl.OK, "Home": impl.OK, "E": impl.ErrNone, "p": impl.ErrNone, "PP": impl.ErrNone, "CET": impl.ErrNone, "Newer": impl.ErrNone} {
		if got := impl.Put(stores["older rules alone"], event(1, zone, 0)); got.Code != code {
			t.Errorf("%s: got the code %d, want %d", zone, got.Code, code)
		}
	}
	isNotStored(t, "a Zone of nothing", impl.Put(impl.Store{}, event(1, "P", 0)), impl.ErrNone)
}

// On the way to newer rules a Zone must be one of both.
func TestPutOfZonesThatJustOneHas(t *testing.T) {
	s := aStore(t)
	for _, id := range []int64{1, 10, 20, 21, 25, 30, 40, 1000000} {
		for _, zone := range []string{"Older", "Newer", "None"} {
			isNotStored(t, zone, impl.Put(s, event(id, zone, 0)), impl.ErrNone)
		}
		for _, zone := range []string{"P", "Q", "Home"} {
			isPut(t, s, event(id, zone, 0))
		}
	}
	for s.Cursor > 0 {
		s = isStored(t, impl.Batch(s, 1))
	}
	isNotStored(t, "Older", impl.Put(s, event(1, "Older", 0)), impl.ErrNone)
	isPut(t, s, event(1, "Newer", 0))
	s = storeOf(t, olderText)
	isNotStored(t, "Newer", impl.Put(s, event(1, "Newer", 0)), impl.ErrNone)
	isPut(t, s, event(1, "Older", 0))
}

// An Event that is put on the way to newer rules has its entry by those that its Id has come to.
func TestPutOnTheWayToNewerRules(t *testing.T) {
	s := aStore(t)
	for id, offset := range map[int64]int64{1: 3600, 20: 3600, 21: 7200, 22: 7200, 1000000: 7200} {
		after := isPut(t, s, event(id, "P", summerWall+id))
		if !slices.Contains(after.Index, impl.Entry{At: summerWall + id - offset, Id: id}) {
			t.Errorf("%d: got the Index %v, want the offset %d", id, after.Index, offset)
		}
		if after.Cursor != 21 {
			t.Errorf("got the Cursor %d, want 21", after.Cursor)
		}
		isSameStore(t, "dropped", isDropped(t, after, id), withVersions(t, s, after, id))
	}
}

// withVersions is a Store with those of another one, and the Id dropped.
func withVersions(t *testing.T, s impl.Store, after impl.Store, id int64) impl.Store {
	t.Helper()
	last := after.Versions[len(after.Versions)-1]
	s.Versions = append(slices.Clone(after.Versions), gone(after.Tx+1, last.Event))
	s.Tx = after.Tx + 1
	s.Index = slices.DeleteFunc(slices.Clone(s.Index), func(e impl.Entry) bool { return e.Id == id })
	return s
}

func TestPutAndDropWhereThereIsNoRoom(t *testing.T) {
	s := manyVersions(t, 58)
	s = isDropped(t, isPut(t, s, event(2, "Q", 0)), 2)
	for what, full := range map[string]impl.Store{"60 Versions": s, "Tx 900000": {Tx: 900000, Now: s.Now, Versions: s.Versions[:58], Index: s.Index}} {
		isRightStore(t, what, full, true)
		for _, id := range []int64{1, 2, 3} {
			isNotStored(t, what, impl.Put(full, event(id, "P", 0)), impl.ErrFull)
			isNotStored(t, what, impl.Put(full, event(id, "None", 0)), impl.ErrNone)
			isNotStored(t, what, impl.Put(full, event(id, "P", impl.MaxTime+1)), impl.ErrForm)
		}
		isNotStored(t, what, impl.Drop(full, 1), impl.ErrFull)
		isNotStored(t, what, impl.Drop(full, 2), impl.ErrNone)
		isLive(t, what, full, event(1, "P", winterWall+58))
	}
	s = manyVersions(t, 3)
	s.Tx = 899999
	if after := isPut(t, s, event(2, "P", 0)); after.Tx != 900000 || after.Versions[3].Tx != 900000 {
		t.Errorf("got the Txs %d and %d, want 900000", after.Tx, after.Versions[3].Tx)
	}
	if after := isDropped(t, s, 1); after.Tx != 900000 || after.Versions[3].Tx != 900000 {
		t.Errorf("got the Txs %d and %d, want 900000", after.Tx, after.Versions[3].Tx)
	}
}

func TestPutWhereManyAreLive(t *testing.T) {
	s := isPut(t, manyLive(t, 29), event(1000, "P", 0))
	isNotStored(t, "the 31st", impl.Put(s, event(1001, "P", 0)), impl.ErrFull)
	isNotStored(t, "the 31st, of no Zone", impl.Put(s, event(1001, "None", 0)), impl.ErrNone)
	isNotStored(t, "the 31st, a wrong one", impl.Put(s, event(0, "P", 0)), impl.ErrForm)
	for _, id := range []int64{1, 15, 29, 1000} {
		isPut(t, s, event(id, "Q", 5))
	}
	s = isDropped(t, s, 15)
	isNotStored(t, "one that is no more", impl.Drop(s, 15), impl.ErrNone)
	isPut(t, s, event(15, "Q", 5))
	s = isPut(t, s, event(1001, "P", 0))
	isNotStored(t, "the 31st, which was live", impl.Put(s, event(15, "P", 0)), impl.ErrFull)
	if live := impl.Live(s); len(live) != 30 {
		t.Errorf("got %d live", len(live))
	}
}

// Events whose wall time Resolve refuses are live, but have no entry.
func TestEventsWithoutAnInstant(t *testing.T) {
	s := storeOf(t, olderText)
	choices := map[impl.Event][]impl.Entry{}
	for choice := range int64(3) {
		atGap := map[int64]int64{1: gapWall - 3600, 2: gapWall - 7200}
		atFold := map[int64]int64{1: foldWall - 7200, 2: foldWall - 3600}
		inGap, inFold := event(8, "P", gapWall), event(8, "P", foldWall)
		inGap.Gap, inFold.Fold = choice, choice
		choices[inGap], choices[inFold] = nil, nil
		if choice > 0 {
			choices[inGap], choices[inFold] = []impl.Entry{{At: atGap[choice], Id: 8}}, []impl.Entry{{At: atFold[choice], Id: 8}}
		}
	}
	// Nor does a clock show what is beyond both ends of time.
	choices[event(8, "P", impl.MinTime+3599)] = nil
	choices[event(8, "P", impl.MinTime+3600)] = []impl.Entry{{At: impl.MinTime, Id: 8}}
	for e, want := range choices {
		after := isPut(t, s, e)
		if !slices.Equal(after.Index, want) || !slices.Equal(impl.Find(after, impl.MinTime, impl.MaxTime), want) {
			t.Errorf("%+v: got the Index %v, and %v found, want %v", e, after.Index, impl.Find(after, impl.MinTime, impl.MaxTime), want)
		}
		if got := impl.FindWall(after, "P", e.Wall, e.Wall); !slices.Equal(got, []impl.Event{e}) {
			t.Errorf("%+v: got %+v by its wall time", e, got)
		}
		after.Index = append(slices.Clone(want), impl.Entry{At: impl.MaxTime, Id: 8})
		isRightStore(t, "with an entry of no instant", after, false)
	}
	// A Zone whose table is full has no instants, but is there.
	busy := impl.Release{Rules: manyRules(2001), Zones: []impl.Zone{{Name: "P", Eras: []impl.Era{{Rules: manyRules(1)[0].Name, Format: "X", Until: impl.MaxTime, Of: "w"}}}}}
	isTableCode(t, "busy", busy, "P", impl.ErrFull)
	after := isPut(t, impl.Store{Now: busy}, event(8, "P", 0))
	if len(after.Index) > 0 || len(impl.Find(after, impl.MinTime, impl.MaxTime)) > 0 {
		t.Errorf("got the Index %v of a full table", after.Index)
	}
	isDropped(t, after, 8)
}
