package shard_test

import (
	"math"
	"slices"
	"testing"

	"lintel/api"
	"lintel/shard"
)

// good answers a state with something of each kind.
func good() api.Range {
	return api.Range{
		Rows: []api.Row{
			{Key: "", List: []api.Version{{Ts: 1, Value: "x"}, {Ts: 4, Dead: true}}},
			{Key: "a", List: []api.Version{{Ts: 3, Value: "y"}, {Ts: 8, Value: "z"}}},
			{Key: "b", List: []api.Version{{Ts: 5, Value: "v", Dead: true}}},
		},
		Locks: []api.Lock{
			{Txn: two, Home: 1, Until: 102, Spans: []api.Span{span("a", "c"), span("f", "g")}, Writes: writes("k")},
			{Txn: one, Home: -7, Until: 101},
			{Txn: three, Until: 103, Writes: []api.Write{{Key: "d", Value: "w", Dead: true}, {Key: "e"}}},
		},
		Records: []api.Record{{Txn: three, Ts: 6}, {Txn: one}, {Txn: tid(8), Ts: math.MaxInt}},
		Over:    []api.Tid{tid(9), tid(8), {}},
		High:    8,
	}
}

// P13.2: a shard that was loaded has just this state, and goes on from it.
func TestLoadGoesOn(t *testing.T) {
	s := loaded(t, good())
	checkSave(t, s, good())
	checkLocks(t, s, good().Locks...)
	checkSpan(t, s, all, hit("a", 8, "z"))
	checkRecord(t, s, three, 6, true)
	checkRecord(t, s, one, 0, true)
	checkRecord(t, s, tid(8), math.MaxInt, true)
	checkRecord(t, s, two, 0, false)
	checkRecord(t, s, tid(9), 0, false)
	checkRefused(t, s, 1, commit(three, 0, 99), api.Result{Ts: 6})
	checkRefused(t, s, 1, commit(one, 0, 99), isOver)
	for _, over := range good().Over {
		checkRefused(t, s, 1, prepare(over, nil, nil), isOver)
		checkRefused(t, s, 1, resolve(over, 99), api.Result{})
	}
	checkRefused(t, s, 1, prepare(one, nil, writes("a")), api.Result{Ts: 8})
	checkRefused(t, s, 1, prepare(tid(7), nil, writes("b")), isBusy(two))
	checkRefused(t, s, 1, prepare(tid(7), reads(read("d", "f")), nil), isBusy(three))
	checkDo(t, s, 1, resolve(three, 7), isNew(0))
	checkDo(t, s, 1, prepare(tid(7), reads(read("d", "f", stamp("e", 7))), nil), isNew(8))
	checkDo(t, s, 1, abort(two), isNew(0))
	want := good()
	want.Rows = append(want.Rows,
		api.Row{Key: "d", List: []api.Version{{Ts: 7, Value: "w", Dead: true}}}, api.Row{Key: "e", List: []api.Version{{Ts: 7}}})
	want.Locks = append(want.Locks[:2], api.Lock{Txn: tid(7), Home: 3, Until: 107, Spans: []api.Span{span("d", "f")}})
	want.Records = append(want.Records, api.Record{Txn: two})
	want.Over = append(want.Over, three)
	checkSave(t, s, want)
}

// P13.2: states that are odd, but that nothing is said against: locks that meet, a lock of one that is over, times above High.
func TestLoadTakesWhatIsNotRuledOut(t *testing.T) {
	for _, x := range []api.Range{
		{},
		{Rows: []api.Row{}, Locks: []api.Lock{}, Records: []api.Record{}, Over: []api.Tid{}},
		{High: math.MaxInt},
		{Rows: []api.Row{{Key: "a", List: []api.Version{{Ts: 9}}}}, High: 0},
		{Locks: []api.Lock{{Txn: one, Writes: writes("a", "a")}, {Txn: two, Until: -1, Home: -1, Spans: []api.Span{span("a", "b"), span("b", "a")}, Writes: writes("a")}}},
		{Locks: []api.Lock{{Txn: one}}, Records: []api.Record{{Txn: one, Ts: 5}}, Over: []api.Tid{one}},
		{Records: []api.Record{{}, {Txn: api.Tid{Node: -1, Boot: -1, Seq: -1}, Ts: 1}}, Over: []api.Tid{{Node: -1}}},
		{Over: []api.Tid{{Node: 1}, {Boot: 1}, {Seq: 1}, {Node: 1, Boot: 1}, {Node: 1, Seq: 1}, {Boot: 1, Seq: 1}}},
	} {
		checkSave(t, loaded(t, x), x)
	}
}

// P13.1, P13.2: what is now doesn't go by High.
func TestTimesAboveHigh(t *testing.T) {
	s := loaded(t, api.Range{Rows: []api.Row{{Key: "a", List: []api.Version{{Ts: 9, Value: "x"}}}}, High: 2})
	checkSpan(t, s, all, hit("a", 9, "x"))
	checkRefused(t, s, 5, prepare(one, reads(read("a", "b")), nil), isStale)
	checkDo(t, s, 5, prepare(one, reads(read("a", "b", stamp("a", 9))), nil), isNew(2))
}

// P13.2: a lock of one that is over stays: neither Prepare nor Resolve of it does anything.
func TestLockOfOneThatIsOver(t *testing.T) {
	s := loaded(t, api.Range{Locks: []api.Lock{{Txn: one, Until: 101, Writes: writes("a")}}, Over: []api.Tid{one}})
	checkRefused(t, s, 5, prepare(one, nil, nil), isOver)
	checkRefused(t, s, 5, resolve(one, 9), api.Result{})
	checkRefused(t, s, 5, prepare(two, nil, writes("a")), isBusy(one))
}

// checkNoLoad looks at what Load answers to a state that may not be.
func checkNoLoad(t *testing.T, what string, x api.Range) {
	t.Helper()
	if s, err := shard.Load(x); s != nil || err != api.ErrForm {
		t.Errorf("%s: Load(%+v): %v, %d, not nil, ErrForm", what, x, s, err)
	}
}

// P13.2: rows that layer 12 refuses.
func TestLoadRowsOfAnotherForm(t *testing.T) {
	x := []api.Version{{Ts: 1}}
	for what, rows := range map[string][]api.Row{
		"a key twice":          {{Key: "a", List: x}, {Key: "a", List: x}},
		"keys that fall":       {{Key: "b", List: x}, {Key: "a", List: x}},
		"no version":           {{Key: "a", List: x}, {Key: "b"}},
		"the time 0":           {{Key: "a", List: []api.Version{{}}}},
		"a time below 0":       {{Key: "a", List: []api.Version{{Ts: -1}, {Ts: 1}}}},
		"a time twice":         {{Key: "a", List: []api.Version{{Ts: 1}, {Ts: 1}}}},
		"times that fall":      {{Key: "a", List: []api.Version{{Ts: 2}, {Ts: 1}}}},
		"the last row, at 0":   {{Key: "a", List: x}, {Key: "b", List: []api.Version{{}}}},
		"the first row is odd": {{Key: "a"}, {Key: "b", List: x}},
	} {
		checkNoLoad(t, what+", alone", api.Range{Rows: rows})
		state := good()
		state.Rows = rows
		checkNoLoad(t, what, state)
	}
}

// P13.2: two of one transaction, wherever they stand, and numbers below 0.
func TestLoadStatesOfAnotherForm(t *testing.T) {
	for i := range 3 {
		for at := range 4 {
			x := good()
			x.Locks = slices.Insert(x.Locks, at, api.Lock{Txn: x.Locks[i].Txn, Writes: writes("q")})
			checkNoLoad(t, "a lock twice", x)
			x = good()
			x.Records = slices.Insert(x.Records, at, api.Record{Txn: x.Records[i].Txn, Ts: 2})
			checkNoLoad(t, "a record twice", x)
			x = good()
			x.Over = slices.Insert(x.Over, at, x.Over[i])
			checkNoLoad(t, "one that is over twice", x)
		}
		for _, ts := range []int{-1, math.MinInt} {
			x := good()
			x.Records[i].Ts = ts
			checkNoLoad(t, "a record below 0", x)
		}
	}
	for _, high := range []int{-1, math.MinInt} {
		x := good()
		x.High = high
		checkNoLoad(t, "High below 0", x)
		checkNoLoad(t, "High below 0, alone", api.Range{High: high})
	}
	checkNoLoad(t, "the same lock twice", api.Range{Locks: []api.Lock{{}, {}}})
	checkNoLoad(t, "the same record twice", api.Range{Records: []api.Record{{}, {}}})
	checkNoLoad(t, "the same one over twice", api.Range{Over: []api.Tid{{}, {}}})
}

// spoil changes all of a state, and the spare room behind all of its lists.
func spoil(x api.Range) {
	for _, row := range x.Rows {
		fill(row.List, api.Version{Ts: -7, Value: "spoilt"})
	}
	spoilLocks(x.Locks)
	fill(x.Rows, api.Row{Key: "spoilt"})
	fill(x.Records, api.Record{Txn: tid(77), Ts: -7})
	fill(x.Over, tid(77))
}

func spoilLocks(list []api.Lock) {
	for _, l := range list {
		fill(l.Spans, span("", "\xff"))
		fill(l.Writes, api.Write{Key: "spoilt"})
	}
	fill(list, api.Lock{Txn: tid(77)})
}

func fill[T any](list []T, x T) {
	list = list[:cap(list)]
	for i := range list {
		list[i] = x
	}
}

// P13.4: whoever changes what was told, or writes behind it, changes nothing in the shard.
func TestWhatIsToldIsNewMemory(t *testing.T) {
	made := shard.New()
	checkDo(t, made, 1, prepare(one, reads(read("a", "b"), read("c", "d"), read("e", "f")), writes("x", "y", "z")), isNew(0))
	for i := range 5 {
		made.Do(1, prepare(tid(10+i), nil, writes("k")))
		made.Do(1, commit(tid(10+i), 1, 9))
		made.Do(1, resolve(tid(10+i), 2+i))
	}
	for _, s := range []*shard.Shard{loaded(t, good()), made} {
		want, hits := loaded(t, s.Save()).Save(), s.Span(all)
		spoil(s.Save())
		spoilLocks(s.Locks())
		fill(s.Span(all), api.Hit{Key: "spoilt"})
		checkSave(t, s, want)
		checkLocks(t, s, want.Locks...)
		checkSpan(t, s, all, hits...)
	}
}

// P13.4: no two lists of one answer share memory: one may be written on into its spare room.
func TestListsOfAnAnswerAreApart(t *testing.T) {
	x := loaded(t, good()).Save()
	for _, row := range x.Rows {
		_ = append(row.List, api.Version{Ts: 99})
	}
	for _, l := range x.Locks {
		_ = append(l.Spans, span("spare", "room"))
		_ = append(l.Writes, api.Write{Key: "spare"})
	}
	if !same(x, good()) {
		t.Fatalf("Save: %+v, not %+v", x, good())
	}
}

// P13.4: what was told stays as it is, whatever the shard is told later.
func TestWhatWasToldStays(t *testing.T) {
	s := loaded(t, good())
	state, locks, hits := s.Save(), s.Locks(), s.Span(all)
	for _, c := range []api.Command{resolve(two, 20), resolve(one, 0), abort(tid(5)), prepare(tid(5), nil, writes("a")), resolve(tid(5), 21), resolve(three, 22)} {
		if got := s.Do(1, c); got.Err != api.OK || !got.New {
			t.Fatalf("Do(1, %+v): %+v", c, got)
		}
	}
	if !same(state, good()) || !sameLocks(locks, good().Locks) || !slices.Equal(hits, []api.Hit{hit("a", 8, "z")}) {
		t.Fatalf("what was told first is now %+v, %+v, %+v", state, locks, hits)
	}
}

// P13.4: a state that is handed in stays as it is, its spare room too, and is not kept.
func TestStateHandedInIsNotKept(t *testing.T) {
	x, before := good(), good()
	x.Locks = append(x.Locks, api.Lock{Txn: tid(50)}, api.Lock{Txn: tid(51)})[:3]
	x.Records = append(x.Records, api.Record{Txn: tid(50)}, api.Record{Txn: tid(51)})[:3]
	x.Over = append(x.Over, tid(50), tid(51))[:3]
	s := loaded(t, x)
	s.Do(1, prepare(tid(60), nil, writes("p")))
	s.Do(1, commit(tid(60), 1, 99))
	s.Do(1, resolve(tid(60), 9))
	s.Do(1, resolve(two, 9))
	s.Do(1, prepare(tid(61), nil, writes("p")))
	if !same(x, before) || x.Locks[:5][3].Txn != tid(50) || x.Records[:5][3].Txn != tid(50) || x.Over[:5][3] != tid(50) {
		t.Fatalf("what was handed in is now %+v", x)
	}
	want := loaded(t, s.Save()).Save()
	spoil(x)
	checkSave(t, s, want)
	checkRecord(t, s, three, 6, true)
}

// P13.4: a command that is handed in stays as it is, and is not kept.
func TestCommandHandedInIsNotKept(t *testing.T) {
	s := written(t, "a")
	seen := []api.Stamp{stamp("a", 10), stamp("spare", 1)}
	r := []api.Read{read("a", "b", seen[:1]...), read("c", "d"), read("spare", "room")}
	w := append(writes("x", "y"), writes("spare")...)
	checkDo(t, s, 1, prepare(one, r[:2], w[:2]), isNew(10))
	if !slices.Equal(w, writes("x", "y", "spare")) || r[0].Span != span("a", "b") || r[2].Span != span("spare", "room") || seen[0] != stamp("a", 10) || seen[1] != stamp("spare", 1) {
		t.Fatalf("what was handed in is now %+v, %+v", r, w)
	}
	fill(seen, stamp("spoilt", 1))
	fill(r, read("", "spoilt"))
	fill(w, api.Write{Key: "spoilt"})
	checkLocks(t, s, api.Lock{Txn: one, Home: 3, Until: 101, Spans: []api.Span{span("a", "b"), span("c", "d")}, Writes: writes("x", "y")})
	checkDo(t, s, 1, resolve(one, 12), isNew(0))
	checkSpan(t, s, all, hit("a", 10, "of a"), hit("x", 12, "of x"), hit("y", 12, "of y"))
}

// P13.2: two shards of one state never meet.
func TestShardsOfOneStateAreApart(t *testing.T) {
	x := good()
	a, b := loaded(t, x), loaded(t, x)
	checkDo(t, a, 1, resolve(two, 30), isNew(0))
	checkDo(t, a, 1, commit(two, 1, 9), isNew(1))
	checkDo(t, a, 1, prepare(tid(40), nil, writes("q")), isNew(30))
	checkSave(t, b, good())
	checkRecord(t, b, two, 0, false)
	checkDo(t, b, 1, prepare(tid(40), nil, writes("q")), isNew(8))
}
