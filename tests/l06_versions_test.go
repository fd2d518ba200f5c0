package tests

import (
	"fmt"
	"slices"
	"strings"
	"testing"

	"loop.example/g00364/impl"
)

// eventChanges are such that make another right Event of it, and such that make a wrong one.
func eventChanges() (map[string]func(*impl.Event), map[string]func(*impl.Event)) {
	right, wrong := map[string]func(*impl.Event){}, map[string]func(*impl.Event){}
	number := func(what string, least int64, most int64, field func(*impl.Event) *int64) {
		for _, n := range append([]int64{least - 1, least, least + 1, most - 1, most, most + 1, -1, 3}, extremes...) {
			to := wrong
			if n >= least && n <= most {
				to = right
			}
			to[fmt.Sprint(what, " of ", n)] = func(e *impl.Event) { *field(e) = n }
		}
	}
	number("Id", 1, 1000000, func(e *impl.Event) *int64 { return &e.Id })
	number("Wall", impl.MinTime, impl.MaxTime, func(e *impl.Event) *int64 { return &e.Wall })
	number("Gap", 0, 2, func(e *impl.Event) *int64 { return &e.Gap })
	number("Fold", 0, 2, func(e *impl.Event) *int64 { return &e.Fold })
	for _, name := range rightNames {
		right["Name of "+name] = func(e *impl.Event) { e.Name = name }
	}
	for _, name := range append(wrongNames, strings.Repeat("a", impl.MaxBytes), strings.Repeat("a", impl.MaxBytes+1)) {
		wrong[fmt.Sprintf("Name of %.30q", name)] = func(e *impl.Event) { e.Name = name }
		wrong[fmt.Sprintf("Zone of %.30q", name)] = func(e *impl.Event) { e.Zone = name }
	}
	return right, wrong
}

func TestTheEventsOfVersions(t *testing.T) {
	right, wrong := eventChanges()
	// The first one's Event is no more, but the one that took it is like it.
	for what, change := range wrong {
		for place := range 9 {
			s := withStore(t, func(s *impl.Store) { change(&s.Versions[place].Event) })
			isRightStore(t, fmt.Sprint(what, " of the Version ", place), s, false)
		}
	}
	// The Event that was put again: whatever it was, it is no more. (Its Id is that of another then.)
	for what, change := range right {
		s := withStore(t, func(s *impl.Store) { change(&s.Versions[2].Event) })
		isRightStore(t, what+" of one that was put again", s, s.Versions[2].Event.Id == 10)
	}
	// A Zone that is nowhere may be that of one that is no more, but not that of one that is live.
	for place := range 9 {
		s := withStore(t, func(s *impl.Store) { s.Versions[place].Event.Zone = "None" })
		isRightStore(t, fmt.Sprint("no Zone of the Version ", place), s, place == 2)
	}
	// The Name is not in an entry: that of a live Event may be any.
	for place, right := range []bool{false, true, true, false, true, true, false, false, true} {
		s := withStore(t, func(s *impl.Store) { s.Versions[place].Event.Name = "another" })
		isRightStore(t, fmt.Sprint("the Name of the Version ", place), s, right)
	}
}

// One that is Gone is like the last one ahead of its Id in each field.
func TestVersionsThatAreGone(t *testing.T) {
	changes := map[string]func(*impl.Event){
		"Id":   func(e *impl.Event) { e.Id++ },
		"Name": func(e *impl.Event) { e.Name += "x" },
		"Zone": func(e *impl.Event) { e.Zone = "Q" },
		"Wall": func(e *impl.Event) { e.Wall++ },
		"Gap":  func(e *impl.Event) { e.Gap++ },
		"Fold": func(e *impl.Event) { e.Fold++ },
	}
	for what, change := range changes {
		isRightStore(t, "Gone, with another "+what, withStore(t, func(s *impl.Store) { change(&s.Versions[6].Event) }), false)
		isRightStore(t, "taken, with another "+what, withStore(t, func(s *impl.Store) { change(&s.Versions[3].Event) }), false)
		both := withStore(t, func(s *impl.Store) { change(&s.Versions[6].Event); change(&s.Versions[3].Event) })
		isRightStore(t, "both, with another "+what, both, true)
	}
	for place := range 9 {
		s := withStore(t, func(s *impl.Store) { s.Versions[place].Gone = !s.Versions[place].Gone })
		// The one that was taken, and put again as it was, is as well put twice.
		isRightStore(t, fmt.Sprint("the other Gone of the Version ", place), s, place == 7)
	}
}

func TestRowsOfVersions(t *testing.T) {
	put := func(e impl.Event) impl.Version { return impl.Version{Event: e} }
	gone := func(e impl.Event) impl.Version { return impl.Version{Gone: true, Event: e} }
	a, b, other := event(1, "P", winterWall), event(1, "P", summerWall), event(2, "P", winterWall)
	entry := map[impl.Event]impl.Entry{a: {At: winterWall - 3600, Id: 1}, b: {At: summerWall - 7200, Id: 1}, other: {At: winterWall - 3600, Id: 2}}
	rows := map[string]struct {
		right    bool
		versions []impl.Version
		live     []impl.Event
	}{
		"put":                           {true, []impl.Version{put(a)}, []impl.Event{a}},
		"put twice alike":               {true, []impl.Version{put(a), put(a)}, []impl.Event{a}},
		"put twice":                     {true, []impl.Version{put(b), put(a)}, []impl.Event{a}},
		"Gone at first":                 {false, []impl.Version{gone(a)}, nil},
		"Gone at first, then put":       {false, []impl.Version{gone(a), put(a)}, []impl.Event{a}},
		"Gone":                          {true, []impl.Version{put(a), gone(a)}, nil},
		"Gone twice":                    {false, []impl.Version{put(a), gone(a), gone(a)}, nil},
		"Gone, the one further ahead":   {false, []impl.Version{put(a), put(b), gone(a)}, nil},
		"Gone, the last one ahead":      {true, []impl.Version{put(a), put(b), gone(b)}, nil},
		"Gone, one that comes behind":   {false, []impl.Version{put(a), gone(b), put(b)}, []impl.Event{b}},
		"Gone, put again":               {true, []impl.Version{put(a), gone(a), put(b)}, []impl.Event{b}},
		"Gone, put again, Gone":         {true, []impl.Version{put(a), gone(a), put(b), gone(b)}, nil},
		"Gone, put again, Gone as once": {false, []impl.Version{put(a), gone(a), put(b), gone(a)}, nil},
		"Gone twice, with put between":  {true, []impl.Version{put(a), gone(a), put(a), gone(a)}, nil},
		"put twice alike, Gone":         {true, []impl.Version{put(a), put(a), gone(a)}, nil},
		"put twice alike, Gone twice":   {false, []impl.Version{put(a), put(a), gone(a), gone(a)}, nil},
		"another between":               {true, []impl.Version{put(a), put(other), gone(a)}, []impl.Event{other}},
		"another between, Gone, too":    {true, []impl.Version{put(a), put(other), gone(other), gone(a)}, nil},
		"another put, Gone":             {false, []impl.Version{put(other), gone(a)}, []impl.Event{other}},
		"two of one instant":            {true, []impl.Version{put(other), put(a)}, []impl.Event{a, other}},
	}
	for what, row := range rows {
		s := impl.Store{Tx: 9, Now: impl.ReleaseRead(olderText).Release, Versions: row.versions}
		for i := range s.Versions {
			s.Versions[i].Tx = int64(i + 1)
		}
		for _, e := range row.live {
			s.Index = append(s.Index, entry[e])
		}
		isRightStore(t, what, s, row.right)
		if got := impl.Live(s); row.right && !slices.Equal(got, row.live) {
			t.Errorf("%s: got %+v live, want %+v", what, got, row.live)
		}
	}
}

func TestTheListsOfAStore(t *testing.T) {
	for place := range 9 {
		// What was put again need not have been put, nor have been dropped.
		right := place == 2 || place == 7
		s := withStore(t, func(s *impl.Store) { s.Versions = slices.Delete(s.Versions, place, place+1) })
		isRightStore(t, fmt.Sprint("without the Version ", place), s, right)
		s = withStore(t, func(s *impl.Store) { s.Versions = slices.Insert(s.Versions, place, s.Versions[place]) })
		isRightStore(t, fmt.Sprint("with the Version twice: ", place), s, false)
		if place > 0 {
			s = withStore(t, func(s *impl.Store) {
				s.Versions[place], s.Versions[place-1] = s.Versions[place-1], s.Versions[place]
			})
			isRightStore(t, fmt.Sprint("with the Version ahead of its time: ", place), s, false)
		}
	}
	for place := range 4 {
		changes := map[string]func(*impl.Store){
			"less":            func(s *impl.Store) { s.Index = slices.Delete(s.Index, place, place+1) },
			"twice":           func(s *impl.Store) { s.Index = slices.Insert(s.Index, place, s.Index[place]) },
			"earlier":         func(s *impl.Store) { s.Index[place].At-- },
			"later":           func(s *impl.Store) { s.Index[place].At++ },
			"of a lower Id":   func(s *impl.Store) { s.Index[place].Id-- },
			"of a greater Id": func(s *impl.Store) { s.Index[place].Id++ },
			"with the next":   func(s *impl.Store) { s.Index[place], s.Index[(place+1)%4] = s.Index[(place+1)%4], s.Index[place] },
			"none":            func(s *impl.Store) { s.Index[place] = impl.Entry{} },
		}
		for what, change := range changes {
			isRightStore(t, fmt.Sprint("the entry ", place, " ", what), withStore(t, change), false)
		}
	}
	isRightStore(t, "no entries", withStore(t, func(s *impl.Store) { s.Index = nil }), false)
	isRightStore(t, "one more", withStore(t, func(s *impl.Store) { s.Index = append(s.Index, impl.Entry{At: impl.MaxTime, Id: 5}) }), false)
	isRightStore(t, "an entry of nothing", impl.Store{Index: []impl.Entry{{At: 1, Id: 1}}}, false)
	isRightStore(t, "very many entries", impl.Store{Index: make([]impl.Entry, 100000)}, false)
	isRightStore(t, "very many Versions", impl.Store{Tx: 9, Versions: make([]impl.Version, 100000)}, false)
}

// manyVersions puts one Event so often, each time another one.
func manyVersions(t *testing.T, many int64) impl.Store {
	t.Helper()
	s := impl.Store{Tx: many, Now: impl.ReleaseRead(olderText).Release}
	for tx := int64(1); tx <= many; tx++ {
		s.Versions = append(s.Versions, impl.Version{Tx: tx, Event: event(1, "P", winterWall+tx)})
	}
	s.Index = []impl.Entry{{At: winterWall + many - 3600, Id: 1}}
	return s
}

// manyLive has so many live Events, of the Ids from 1 on.
func manyLive(t *testing.T, many int64) impl.Store {
	t.Helper()
	s := impl.Store{Tx: many, Now: impl.ReleaseRead(olderText).Release}
	for id := int64(1); id <= many; id++ {
		s.Versions = append(s.Versions, impl.Version{Tx: id, Event: event(id, "P", winterWall-id)})
		s.Index = append([]impl.Entry{{At: winterWall - id - 3600, Id: id}}, s.Index...)
	}
	return s
}

func TestHowManyVersionsAndEventsThereMayBe(t *testing.T) {
	for many, right := range map[int64]bool{1: true, 2: true, 59: true, 60: true, 61: false, 62: false, 400: false} {
		isRightStore(t, fmt.Sprint(many, " Versions"), manyVersions(t, many), right)
	}
	for many, right := range map[int64]bool{1: true, 29: true, 30: true, 31: false, 60: false} {
		isRightStore(t, fmt.Sprint(many, " live Events"), manyLive(t, many), right)
	}
	// More may have been live: just those that are count.
	s := manyLive(t, 31)
	s.Tx = 32
	s.Versions = append(s.Versions, impl.Version{Tx: 32, Gone: true, Event: s.Versions[6].Event})
	s.Index = slices.DeleteFunc(s.Index, func(e impl.Entry) bool { return e.Id == 7 })
	isRightStore(t, "31 Events, one of which is no more", s, true)
	if got := impl.AsOf(s, 31); got.Code != impl.OK || len(got.Events) != 31 {
		t.Errorf("got %+v as of 31, want 31 Events", got)
	}
	if got := impl.Live(s); len(got) != 30 {
		t.Errorf("got %+v live, want 30 Events", got)
	}
}
