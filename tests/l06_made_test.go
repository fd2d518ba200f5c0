package tests

import (
	"fmt"
	"math"
	"slices"
	"testing"

	"loop.example/g00364/impl"
)

// slowMoment is an Event's instant by a Release, found by the slow ways of the layers below: none, or one.
func slowMoment(r impl.Release, e impl.Event) []int64 {
	table, there := slowTable(r, e.Zone)
	if !there || table.Code != impl.OK {
		return []int64{}
	}
	out := slowResolve(table.Table, e.Wall, slowShown(table.Table, e.Wall), e.Gap, e.Fold)
	if out.Code != impl.OK {
		return []int64{}
	}
	return []int64{out.N}
}

// slowTable tells false, if there is no such Zone or Link.
func slowTable(r impl.Release, name string) (impl.TableOut, bool) {
	for _, link := range r.Links {
		if link.Name == name {
			name = link.To
			break
		}
	}
	for _, zone := range r.Zones {
		if zone.Name == name {
			return impl.TableOf(r, name), true
		}
	}
	return impl.TableOut{}, false
}

// slowLive asks of each Id that a Version has for the last one of it.
func slowLive(versions []impl.Version) []impl.Event {
	live := []impl.Event{}
	for i, v := range versions {
		behind := versions[i+1:]
		last := !slices.ContainsFunc(behind, func(other impl.Version) bool { return other.Event.Id == v.Event.Id })
		if last && !v.Gone {
			live = append(live, v.Event)
		}
	}
	slices.SortFunc(live, func(a impl.Event, b impl.Event) int { return int(a.Id - b.Id) })
	return live
}

func slowEntries(s impl.Store) []impl.Entry {
	entries := []impl.Entry{}
	for _, e := range slowLive(s.Versions) {
		by := s.Was
		if s.Cursor == 0 || e.Id < s.Cursor {
			by = s.Now
		}
		for _, at := range slowMoment(by, e) {
			entries = append(entries, impl.Entry{At: at, Id: e.Id})
		}
	}
	slices.SortFunc(entries, entryOrder)
	return entries
}

func slowHasZone(s impl.Store, zone string) bool {
	_, now := slowTable(s.Now, zone)
	_, was := slowTable(s.Was, zone)
	return now && (was || s.Cursor == 0)
}

// slowRight goes through what chapter 7 says of a right Store, sentence by sentence.
func slowRight(s impl.Store) bool {
	empty := len(s.Was.Rules) == 0 && len(s.Was.Zones) == 0 && len(s.Was.Links) == 0
	if !impl.ReleaseRight(s.Now) || !impl.ReleaseRight(s.Was) || s.Tx < 0 || s.Tx > 900000 || len(s.Versions) > 60 {
		return false
	}
	if s.Cursor < 0 || s.Cursor > 1000001 || s.Cursor == 0 && !empty {
		return false
	}
	for i, v := range s.Versions {
		if v.Tx < 1 || v.Tx > s.Tx || i > 0 && s.Versions[i-1].Tx >= v.Tx || !slowRightEvent(v.Event) {
			return false
		}
		if v.Gone && !slices.Contains(slowLive(s.Versions[:i]), v.Event) {
			return false
		}
	}
	live := slowLive(s.Versions)
	for _, e := range live {
		if !slowHasZone(s, e.Zone) {
			return false
		}
	}
	return len(live) <= 30 && slices.Equal(s.Index, slowEntries(s))
}

func slowRightEvent(e impl.Event) bool {
	return e.Id >= 1 && e.Id <= 1000000 && impl.NameRight(e.Name) && impl.NameRight(e.Zone) && e.Wall >= impl.MinTime && e.Wall <= impl.MaxTime &&
		e.Gap >= 0 && e.Gap <= 2 && e.Fold >= 0 && e.Fold <= 2
}

func refusedStore(code int64) impl.StoreOut {
	return impl.StoreOut{Code: code}
}

func slowAdd(s impl.Store, v impl.Version) impl.StoreOut {
	s.Tx++
	v.Tx = s.Tx
	s.Versions = append(slices.Clone(s.Versions), v)
	s.Index = slowEntries(s)
	return impl.StoreOut{Store: s}
}

func slowPut(s impl.Store, e impl.Event) impl.StoreOut {
	live := slowLive(s.Versions)
	of := slices.ContainsFunc(live, func(other impl.Event) bool { return other.Id == e.Id })
	if !slowRight(s) || !slowRightEvent(e) {
		return refusedStore(impl.ErrForm)
	}
	if !slowHasZone(s, e.Zone) {
		return refusedStore(impl.ErrNone)
	}
	if len(s.Versions) >= 60 || s.Tx == 900000 || len(live) >= 30 && !of {
		return refusedStore(impl.ErrFull)
	}
	return slowAdd(s, impl.Version{Event: e})
}

func slowDrop(s impl.Store, id int64) impl.StoreOut {
	if !slowRight(s) {
		return refusedStore(impl.ErrForm)
	}
	for _, e := range slowLive(s.Versions) {
		if e.Id != id {
			continue
		}
		if len(s.Versions) >= 60 || s.Tx == 900000 {
			return refusedStore(impl.ErrFull)
		}
		return slowAdd(s, impl.Version{Gone: true, Event: e})
	}
	return refusedStore(impl.ErrNone)
}

func slowInstall(s impl.Store, text string) impl.StoreOut {
	read := impl.ReleaseRead(text)
	live := slowLive(s.Versions)
	switch {
	case len(text) > impl.MaxBytes:
		return refusedStore(impl.ErrSize)
	case !slowRight(s):
		return refusedStore(impl.ErrForm)
	case s.Cursor != 0:
		return refusedStore(impl.ErrState)
	case read.Code != impl.OK:
		return refusedStore(read.Code)
	}
	for _, e := range live {
		if _, there := slowTable(read.Release, e.Zone); !there {
			return refusedStore(impl.ErrNone)
		}
	}
	if len(live) > 0 {
		s.Was, s.Cursor = s.Now, 1
	}
	s.Now = read.Release
	return impl.StoreOut{Store: s}
}

func slowBatch(s impl.Store, most int64) impl.StoreOut {
	if !slowRight(s) || most < 1 || most > 1000 {
		return refusedStore(impl.ErrForm)
	}
	if s.Cursor == 0 {
		return refusedStore(impl.ErrState)
	}
	out := impl.StoreOut{}
	cursor, left := s.Cursor, most
	for _, e := range slowLive(s.Versions) {
		if e.Id < s.Cursor {
			continue
		}
		if left == 0 {
			s.Cursor = cursor
			s.Index = slowEntries(s)
			out.Store = s
			return out
		}
		if !slices.Equal(slowMoment(s.Was, e), slowMoment(s.Now, e)) {
			out.Many++
		}
		cursor = e.Id + 1
		left--
	}
	s.Cursor, s.Was = 0, impl.Release{}
	s.Index = slowEntries(s)
	out.Store = s
	return out
}

// storeKinds counts what was asked, and what came of it.
type storeKinds map[string]int

func (k storeKinds) hasAll(t *testing.T, least int, kinds ...string) {
	t.Helper()
	for _, kind := range kinds {
		if k[kind] < least {
			t.Errorf("too few of %s: %v", kind, k)
		}
	}
}

// isOut holds an answer against the slow one, counts it, and goes on with the Store, if there is one.
func (k storeKinds) isOut(t *testing.T, what string, s impl.Store, got impl.StoreOut, want impl.StoreOut) impl.Store {
	t.Helper()
	if got.Code != want.Code || got.Many != want.Many || storeText(got.Store) != storeText(want.Store) {
		t.Fatalf("%s: got\n%+v, want\n%+v, of\n%s", what, got, want, storeText(s))
	}
	k[fmt.Sprint(what, " of the code ", got.Code)]++
	if got.Many > 0 {
		k["Many"]++
	}
	if got.Code != impl.OK {
		return s
	}
	if !slowRight(got.Store) {
		t.Fatalf("%s: the Store is not right: %s", what, storeText(got.Store))
	}
	return got.Store
}

// storeEvent has few Ids, and a wall time near a Turn of its Zone by one of two Releases, mostly.
func (c chance) storeEvent(s impl.Store) impl.Event {
	e := impl.Event{
		Id:   pick(c, 1, 2, 3, 7, 8, 9, 999999, 1000000, c.from(1, 40)),
		Name: pick(c, "a", "b", c.name()),
		Zone: pick(c, "Z0", "Z0", "Z1", "L0", "L1", "Z2", "L2", "None"),
		Wall: pick(c, 0, wallTime(1960, 1, 1, 0)+c.Int63n(80*365*86400), c.from(impl.MinTime, impl.MaxTime)),
		Gap:  c.from(0, 2),
		Fold: c.from(0, 2),
	}
	table, _ := slowTable(pick(c, s.Now, s.Now, s.Was), e.Zone)
	if turns := table.Table.Turns; len(turns) > 1 {
		turn := turns[1+c.Intn(len(turns)-1)]
		wall := turn.At + turn.Offset + pick(c, 0, -1, 1, c.from(-3600, 3600), c.from(-90000, 90000))
		e.Wall = max(impl.MinTime, min(impl.MaxTime, wall))
	}
	switch c.Intn(60) {
	case 0:
		e.Id = pick[int64](c, 0, 1000001)
	case 1:
		e.Wall = pick[int64](c, impl.MinTime-1, impl.MaxTime+1)
	case 2:
		e.Gap = 3
	case 3:
		e.Name = ""
	}
	return e
}

// storeRules are like those of Now in some things, or new ones; now and then such that are refused.
func (c chance) storeRules(s impl.Store) string {
	r := c.clockRelease(c.clockRules(3))
	if len(s.Now.Zones) > 0 && c.Intn(2) == 0 {
		r.Rules, r.Zones, r.Links = slices.Clone(s.Now.Rules), s.Now.Zones, s.Now.Links
		for i := range r.Rules {
			r.Rules[i].At = pick(c, r.Rules[i].At, c.from(0, 86400))
		}
	}
	switch c.Intn(12) {
	case 0:
		return madeText(r) + "x\n"
	case 1:
		return madeText(r) + "Link None A\n"
	case 2:
		r.Links = r.Links[:max(0, len(r.Links)-1)]
	}
	return madeText(r)
}

// step does one thing of four.
func (k storeKinds) step(t *testing.T, c chance, s impl.Store) impl.Store {
	t.Helper()
	before := storeText(s)
	after := s
	switch c.Intn(10) {
	case 0, 1, 2, 3:
		e := c.storeEvent(s)
		after = k.isOut(t, "Put", s, impl.Put(s, e), slowPut(s, e))
	case 4, 5:
		id := pick[int64](c, 0, 1, 2, 3, 7, 8, 9, 999999, 1000000)
		after = k.isOut(t, "Drop", s, impl.Drop(s, id), slowDrop(s, id))
	case 6, 7:
		text := c.storeRules(s)
		after = k.isOut(t, "Install", s, impl.Install(s, text), slowInstall(s, text))
	default:
		most := pick[int64](c, 0, 1, 1, 1, 2, 2, 3, 1000, 1001)
		after = k.isOut(t, "Batch", s, impl.Batch(s, most), slowBatch(s, most))
	}
	if storeText(s) != before {
		t.Fatalf("the Store has become\n%s, and was\n%s", storeText(s), before)
	}
	return after
}

// isTold holds what may be asked of a right Store against the slow ways.
func isTold(t *testing.T, c chance, s impl.Store) {
	t.Helper()
	live := slowLive(s.Versions)
	isLive(t, "of all", s, live...)
	for tx := int64(0); tx <= s.Tx; tx++ {
		ahead := slices.DeleteFunc(slices.Clone(s.Versions), func(v impl.Version) bool { return v.Tx > tx })
		isAsOf(t, s, tx, slowLive(ahead)...)
	}
	for _, id := range []int64{0, 1, 2, 7, 8, 1000000} {
		isHistory(t, s, id, slices.DeleteFunc(slices.Clone(s.Versions), func(v impl.Version) bool { return v.Event.Id != id })...)
	}
	found := []impl.Entry{}
	for _, e := range live {
		for _, at := range slowMoment(s.Now, e) {
			found = append(found, impl.Entry{At: at, Id: e.Id})
		}
	}
	slices.SortFunc(found, entryOrder)
	isFound(t, s, math.MinInt64, math.MaxInt64, found...)
	instants := nearEntries(found)
	for range 8 {
		three := []int64{pick(c, instants...), pick(c, instants...), pick(c, instants...)}
		slices.Sort(three)
		isPartedAt(t, s, found, three[0], three[1], three[2])
	}
	for _, zone := range []string{"Z0", "L0", "Z1", "None"} {
		from, to := c.from(impl.MinTime, impl.MaxTime), c.from(impl.MinTime, impl.MaxTime)
		if len(live) > 0 {
			from, to = pick(c, from, pick(c, live...).Wall), pick(c, to, pick(c, live...).Wall)
		}
		want := slices.DeleteFunc(slices.Clone(live), func(e impl.Event) bool { return e.Zone != zone || e.Wall < from || e.Wall > to })
		slices.SortStableFunc(want, func(a impl.Event, b impl.Event) int { return int(a.Wall - b.Wall) })
		isFoundByWall(t, s, zone, from, to, want...)
	}
}

// Promises 10 to 12: walks of all calls, held against the slow ways at each step.
func TestWalksOfStores(t *testing.T) {
	c := newChance(101)
	kinds := storeKinds{}
	for range 150 {
		s := impl.Store{Tx: pick[int64](c, 0, 0, 0, 3)}
		for step := range c.from(1, 80) {
			s = kinds.step(t, c, s)
			if step%10 == 0 {
				isTold(t, c, s)
			}
			if t.Failed() {
				return
			}
		}
		isTold(t, c, s)
	}
	kinds.hasAll(t, 20, "Many", "Put of the code 0", "Put of the code 1", "Put of the code 5", "Drop of the code 0", "Drop of the code 5",
		"Install of the code 0", "Install of the code 1", "Install of the code 3", "Install of the code 5", "Install of the code 10", "Batch of the code 0", "Batch of the code 1", "Batch of the code 10")
}

// changed makes one small change in a Store's own lists, or numbers.
func (c chance) changed(s impl.Store) impl.Store {
	s.Versions, s.Index = slices.Clone(s.Versions), slices.Clone(s.Index)
	switch c.Intn(6) {
	case 0:
		s.Tx += pick(c, -1, 1, 900000-s.Tx, 900001-s.Tx)
	case 1:
		s.Cursor = pick[int64](c, 0, 1, 2, 8, 1000000, 1000001, 1000002, -1)
	case 2:
		s.Now, s.Was = s.Was, s.Now
	case 3:
		s.Was = pick(c, s.Now, impl.Release{})
	case 4:
		if len(s.Index) > 0 {
			place := c.Intn(len(s.Index))
			s.Index[place].At += c.from(-1, 1)
			s.Index[place].Id += c.from(-1, 1)
		}
	case 5:
		if len(s.Versions) > 0 {
			v := &s.Versions[c.Intn(len(s.Versions))]
			v.Tx += pick[int64](c, 0, 0, -1, 1)
			v.Gone = pick(c, v.Gone, v.Gone, !v.Gone)
			v.Event.Wall += pick[int64](c, 0, 0, 1)
			v.Event.Gap = pick(c, v.Event.Gap, c.from(0, 3))
			v.Event.Zone = pick(c, v.Event.Zone, "L0", "Z1")
			v.Event.Name = pick(c, v.Event.Name, "a")
		}
	}
	return s
}

// Stores of walks, with one change: some are right, most are not.
func TestChangedStores(t *testing.T) {
	c := newChance(102)
	kinds := storeKinds{}
	for range 60 {
		s := impl.Store{}
		for range c.from(1, 40) {
			s = kinds.step(t, c, s)
			for range 6 {
				other := c.changed(s)
				want := slowRight(other)
				kinds[fmt.Sprint("right? ", want)]++
				if got := impl.StoreRight(other); got != want {
					t.Fatalf("is it right? got %v, want %v, of\n%s", got, want, storeText(other))
				}
				kinds.step(t, c, other)
			}
		}
	}
	kinds.hasAll(t, 500, "right? true", "right? false")
}

// putSome puts so many Events, or fewer, as some are refused.
func (c chance) putSome(s impl.Store, many int64) impl.Store {
	for range many {
		if out := impl.Put(s, c.storeEvent(s)); out.Code == impl.OK {
			s = out.Store
		}
	}
	return s
}

// Promise 11: as many steps as there must be, each change is counted once, what is found is by the new rules from the
// beginning on, and the index comes to that.
func isBroughtToNewRules(t *testing.T, s impl.Store, most int) int64 {
	t.Helper()
	live := impl.Live(s)
	found := impl.Find(s, impl.MinTime, impl.MaxTime)
	changed, many, steps := int64(0), int64(0), 0
	for _, e := range live {
		if !slices.Equal(slowMoment(s.Was, e), slowMoment(s.Now, e)) {
			changed++
		}
	}
	for s.Cursor > 0 {
		out := impl.Batch(s, int64(most))
		s = isStored(t, out)
		many += out.Many
		steps++
		isFound(t, s, impl.MinTime, impl.MaxTime, found...)
	}
	if want := (len(live) + most - 1) / most; steps != want || many != changed {
		t.Errorf("%d steps of %d for %d Events, want %d; Many of %d in all, want %d", steps, most, len(live), want, many, changed)
	}
	if !slices.Equal(s.Index, found) {
		t.Errorf("got the Index %v, want %v", s.Index, found)
	}
	return many
}

// Promise 11, of Stores of all kinds.
func TestBatchesBringTheIndexToNewRules(t *testing.T) {
	c := newChance(103)
	kinds := storeKinds{}
	for range 400 {
		s := isStored(t, impl.Install(impl.Store{}, madeText(c.clockRelease(c.clockRules(3)))))
		s = c.putSome(s, c.from(0, 40))
		out := impl.Install(s, c.storeRules(s))
		if out.Code != impl.OK {
			continue
		}
		many := isBroughtToNewRules(t, out.Store, pick(c, 1, 2, 3, 5, 1000))
		kinds[fmt.Sprint("rules that change: ", many > 0)]++
		if t.Failed() {
			return
		}
	}
	kinds.hasAll(t, 20, "rules that change: true", "rules that change: false")
}

// spoilStore writes over all that a Store's lists have room for.
func spoilStore(s impl.Store) {
	for _, r := range []impl.Release{s.Now, s.Was} {
		for _, zone := range r.Zones[:cap(r.Zones)] {
			spoilList(zone.Eras, impl.Era{Format: "spoilt"})
		}
		spoilList(r.Rules, impl.Rule{Name: "spoilt"})
		spoilList(r.Zones, impl.Zone{Name: "spoilt"})
		spoilList(r.Links, impl.Link{Name: "spoilt"})
	}
	spoilList(s.Versions, impl.Version{Tx: -1})
	spoilList(s.Index, impl.Entry{At: -1})
}

func spoilList[T any](list []T, thing T) {
	for i := range list[:cap(list)] {
		list[:cap(list)][i] = thing
	}
}

// Answers share no memory with what is handed in, nor with each other.
func TestStoresAreNewMemory(t *testing.T) {
	there := func() impl.Store {
		s := aStore(t)
		for s.Cursor > 0 {
			s = isStored(t, impl.Batch(s, 1))
		}
		return s
	}
	calls := map[string]struct {
		made func() impl.Store
		call func(s impl.Store) impl.StoreOut
	}{
		"Put":                 {func() impl.Store { return aStore(t) }, func(s impl.Store) impl.StoreOut { return impl.Put(s, event(1, "P", 0)) }},
		"Drop":                {func() impl.Store { return aStore(t) }, func(s impl.Store) impl.StoreOut { return impl.Drop(s, 10) }},
		"Batch":               {func() impl.Store { return aStore(t) }, func(s impl.Store) impl.StoreOut { return impl.Batch(s, 1) }},
		"the last Batch":      {func() impl.Store { return aStore(t) }, func(s impl.Store) impl.StoreOut { return impl.Batch(s, 1000) }},
		"Put, there":          {there, func(s impl.Store) impl.StoreOut { return impl.Put(s, event(1, "P", 0)) }},
		"Install":             {there, func(s impl.Store) impl.StoreOut { return impl.Install(s, newerText) }},
		"Install of the same": {there, func(s impl.Store) impl.StoreOut { return impl.Install(s, impl.ReleaseText(s.Now)) }},
		"Install at first":    {func() impl.Store { return storeOf(t, olderText) }, func(s impl.Store) impl.StoreOut { return impl.Install(s, newerText) }},
	}
	for what, c := range calls {
		s := c.made()
		first, second := c.call(s), c.call(s)
		want := storeText(second.Store)
		spoilStore(first.Store)
		isSameStore(t, what+", handed in", s, c.made())
		if got := storeText(second.Store); got != want || second.Code != impl.OK {
			t.Errorf("%s: another answer has become\n%s, and was\n%s", what, got, want)
		}
		spoilStore(s)
		if got := storeText(second.Store); got != want {
			t.Errorf("%s: by what was handed in the answer has become\n%s, and was\n%s", what, got, want)
		}
	}
}

// No two lists of one answer share memory: what is changed in the one is not changed in the other.
func TestListsOfOneStoreAreTheirOwn(t *testing.T) {
	s := isStored(t, impl.Install(storeOf(t, olderText, event(1, "P", 0)), olderText))
	was := fmt.Sprintf("%+v", s.Was)
	spoilStore(impl.Store{Now: s.Now})
	if got := fmt.Sprintf("%+v", s.Was); got != was {
		t.Errorf("Was has become %s, and was %s", got, was)
	}
	// One Zone's Eras, and one Release, are handed in as two.
	shared := impl.ReleaseRead("Zone P 0 - X\n").Release
	shared.Zones = append(shared.Zones, impl.Zone{Name: "Q", Eras: shared.Zones[0].Eras})
	s = isStored(t, impl.Put(impl.Store{Now: shared, Was: shared, Cursor: 1}, event(1, "P", 0)))
	s.Now.Zones[0].Eras[0].Format = "spoilt"
	for _, zone := range []impl.Zone{s.Now.Zones[1], s.Was.Zones[0], s.Was.Zones[1], shared.Zones[0]} {
		if zone.Eras[0].Format != "X" {
			t.Errorf("got %+v", zone)
		}
	}
}

func TestListsThatAreToldAreNewMemory(t *testing.T) {
	s := aStore(t)
	ask := func() string {
		return fmt.Sprint(impl.Live(s), impl.AsOf(s, 5), impl.AsOf(s, 9), impl.History(s, 30), impl.Find(s, impl.MinTime, impl.MaxTime), impl.FindWall(s, "Home", impl.MinTime, impl.MaxTime))
	}
	want := ask()
	spoilList(impl.Live(s), impl.Event{Id: -1})
	spoilList(impl.AsOf(s, 5).Events, impl.Event{Id: -1})
	spoilList(impl.AsOf(s, 9).Events, impl.Event{Id: -1})
	spoilList(impl.History(s, 30), impl.Version{Tx: -1})
	spoilList(impl.Find(s, impl.MinTime, impl.MaxTime), impl.Entry{At: -1})
	spoilList(impl.FindWall(s, "Home", impl.MinTime, impl.MaxTime), impl.Event{Id: -1})
	isSameStore(t, "handed in", s, aStore(t))
	if got := ask(); got != want {
		t.Errorf("got %s, and was %s", got, want)
	}
}

// Each call of a full Store ends soon, though its tables take long.
func TestStoresOfManyTables(t *testing.T) {
	r := impl.Release{Rules: manyRules(1950)}
	for i := range impl.MaxZones {
		zone := impl.Zone{Name: fmt.Sprint("Z", i)}
		for k := range impl.MaxEras {
			zone.Eras = append(zone.Eras, impl.Era{Offset: int64(i * k), Rules: "A", Format: "X", Until: wallTime(1961+k, 1, 1, 0), Of: "w"})
		}
		zone.Eras[impl.MaxEras-1].Until = impl.MaxTime
		r.Zones = append(r.Zones, zone)
	}
	for i := range 20 {
		r.Links = append(r.Links, impl.Link{To: fmt.Sprint("Z", i%impl.MaxZones), Name: fmt.Sprint("L", i)})
	}
	s := impl.Store{Now: r}
	for id := int64(1); id <= impl.MaxEvents; id++ {
		zone := pick(newChance(id), r.Links...).Name
		s = isStored(t, impl.Put(s, event(id, zone, wallTime(1990, 1, 1, id))))
	}
	s = isStored(t, impl.Install(s, impl.ReleaseText(r)))
	if len(s.Index) != impl.MaxEvents {
		t.Errorf("got %d entries", len(s.Index))
	}
	isBroughtToNewRules(t, s, 10)
}
