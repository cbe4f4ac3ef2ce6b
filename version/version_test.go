package version_test

import (
	"math"
	"slices"
	"strings"
	"testing"

	"lintel/api"
	"lintel/version"
)

// all is a span that has every key of these tests.
var all = api.Span{From: "", To: strings.Repeat("\xff", 9)}

func live(ts int, value string) api.Version { return api.Version{Ts: ts, Value: value} }

func dead(ts int) api.Version { return api.Version{Ts: ts, Dead: true} }

func row(key string, list ...api.Version) api.Row { return api.Row{Key: key, List: list} }

// filled answers a store into which these rows were put, one version behind the other.
func filled(t *testing.T, list ...api.Row) *version.Store {
	t.Helper()
	s := version.New()
	for _, r := range list {
		for _, v := range r.List {
			checkPut(t, s, r.Key, v, api.OK)
		}
	}
	return s
}

func loaded(t *testing.T, list ...api.Row) *version.Store {
	t.Helper()
	s, err := version.Load(list)
	if s == nil || err != api.OK {
		t.Fatalf("Load(%#v): %v, %d, not a store, OK", list, s, err)
	}
	return s
}

func checkPut(t *testing.T, s *version.Store, key string, v api.Version, want api.Errno) {
	t.Helper()
	if err := s.Put(key, v); err != want {
		t.Fatalf("Put(%q, %#v): %d, not %d", key, v, err, want)
	}
}

func checkSpan(t *testing.T, s *version.Store, p api.Span, ts int, want ...api.Hit) {
	t.Helper()
	if got := s.Span(p, ts); !slices.Equal(got, want) {
		t.Fatalf("Span(%q, %d): %#v, not %#v", p, ts, got, want)
	}
}

func checkNewest(t *testing.T, s *version.Store, key string, want int) {
	t.Helper()
	if got := s.Newest(key); got != want {
		t.Fatalf("Newest(%q): %d, not %d", key, got, want)
	}
}

func checkRows(t *testing.T, s *version.Store, want ...api.Row) {
	t.Helper()
	if got := s.Rows(); !sameRows(got, want) {
		t.Fatalf("Rows: %#v, not %#v", got, want)
	}
}

func sameRows(a, b []api.Row) bool {
	return slices.EqualFunc(a, b, func(x, y api.Row) bool {
		return x.Key == y.Key && slices.Equal(x.List, y.List)
	})
}

func cloneRows(list []api.Row) []api.Row {
	out := slices.Clone(list)
	for i := range out {
		out[i].List = slices.Clone(out[i].List)
	}
	return out
}

// P12.1, P12.2: the chapter's example.
func TestExample(t *testing.T) {
	s := version.New()
	checkPut(t, s, "a", live(3, "x"), api.OK)
	checkPut(t, s, "a", dead(5), api.OK)
	p := api.Span{From: "a", To: "b"}
	checkSpan(t, s, p, 4, api.Hit{Key: "a", Ts: 3, Value: "x"})
	checkSpan(t, s, p, 5)
	checkNewest(t, s, "a", 5)
	checkPut(t, s, "a", live(5, ""), api.ErrOld)
	checkRows(t, s, row("a", live(3, "x"), dead(5)))
}

// P12.1: a new store is empty, and two of them never meet.
func TestNewIsEmpty(t *testing.T) {
	a, b := version.New(), version.New()
	if a == nil || b == nil || a == b {
		t.Fatal("New answered nil, or one store twice")
	}
	checkEmpty(t, a)
	checkPut(t, a, "k", live(1, "x"), api.OK)
	checkEmpty(t, b)
	checkPut(t, b, "k", live(1, "y"), api.OK)
	checkRows(t, a, row("k", live(1, "x")))
	checkRows(t, b, row("k", live(1, "y")))
}

func checkEmpty(t *testing.T, s *version.Store) {
	t.Helper()
	for _, ts := range []int{math.MinInt, -1, 0, 1, math.MaxInt} {
		checkSpan(t, s, all, ts)
		checkSpan(t, s, api.Span{}, ts)
	}
	for _, key := range []string{"", "k", "\x00", "\xff"} {
		checkNewest(t, s, key, 0)
	}
	checkRows(t, s)
}

// P12.1: a version's time is 1 at least, and may be the greatest number there is.
func TestPutTimesAtTheEnds(t *testing.T) {
	for _, ts := range []int{0, -1, math.MinInt} {
		s := version.New()
		checkPut(t, s, "k", live(ts, "x"), api.ErrArg)
		checkPut(t, s, "k", dead(ts), api.ErrArg)
		checkEmpty(t, s)
	}
	for _, ts := range []int{1, 2, math.MaxInt} {
		s := version.New()
		checkPut(t, s, "k", live(ts, "x"), api.OK)
		checkRows(t, s, row("k", live(ts, "x")))
	}
}

// P12.1: ErrArg is named ahead of ErrOld.
func TestPutArgAheadOfOld(t *testing.T) {
	s := filled(t, row("k", live(4, "x")))
	checkPut(t, s, "k", live(0, "y"), api.ErrArg)
	checkPut(t, s, "k", live(-4, "y"), api.ErrArg)
	checkRows(t, s, row("k", live(4, "x")))
}

// P12.1: a time that is not above the newest one is old, whether or not the key has it; the next one is new.
func TestPutOld(t *testing.T) {
	s := filled(t, row("k", live(3, "x"), live(7, "y")))
	for ts := 1; ts <= 7; ts++ {
		checkPut(t, s, "k", live(ts, "z"), api.ErrOld)
		checkPut(t, s, "k", dead(ts), api.ErrOld)
	}
	checkRows(t, s, row("k", live(3, "x"), live(7, "y")))
	checkPut(t, s, "k", live(8, "z"), api.OK)
	checkRows(t, s, row("k", live(3, "x"), live(7, "y"), live(8, "z")))
	checkPut(t, s, "k", live(math.MaxInt, ""), api.OK)
	checkPut(t, s, "k", live(math.MaxInt, ""), api.ErrOld)
	checkNewest(t, s, "k", math.MaxInt)
}

// P12.1: a Dead version counts as others do, and a key that is gone may come again.
func TestPutAroundDead(t *testing.T) {
	s := filled(t, row("k", dead(5)))
	checkNewest(t, s, "k", 5)
	checkPut(t, s, "k", live(5, "x"), api.ErrOld)
	checkPut(t, s, "k", live(4, "x"), api.ErrOld)
	checkPut(t, s, "k", dead(6), api.OK)
	checkPut(t, s, "k", live(7, "x"), api.OK)
	checkRows(t, s, row("k", dead(5), dead(6), live(7, "x")))
	checkSpan(t, s, all, 6)
	checkSpan(t, s, all, 7, api.Hit{Key: "k", Ts: 7, Value: "x"})
}

// P12.1: what is old for one key is not old for another one.
func TestPutGoesByItsKeyAlone(t *testing.T) {
	s := filled(t, row("b", live(9, "x")))
	for _, key := range []string{"", "a", "b\x00", "ba", "c", "B"} {
		checkPut(t, s, key, live(1, key), api.OK)
		checkNewest(t, s, key, 1)
	}
	checkNewest(t, s, "b", 9)
}

// P12.2: at each time a key's version is the newest whose time is not above it.
func TestSpanAtEachTime(t *testing.T) {
	list := []api.Row{row("k", live(2, "two"), live(3, "three"), dead(5), dead(6), live(9, ""), live(12, "twelve"))}
	two, three := api.Hit{Key: "k", Ts: 2, Value: "two"}, api.Hit{Key: "k", Ts: 3, Value: "three"}
	nine, twelve := api.Hit{Key: "k", Ts: 9}, api.Hit{Key: "k", Ts: 12, Value: "twelve"}
	want := []struct {
		ts   int
		hits []api.Hit
	}{
		{math.MinInt, nil}, {-1, nil}, {0, nil}, {1, nil}, {2, []api.Hit{two}}, {3, []api.Hit{three}},
		{4, []api.Hit{three}}, {5, nil}, {6, nil}, {8, nil}, {9, []api.Hit{nine}}, {11, []api.Hit{nine}},
		{12, []api.Hit{twelve}}, {13, []api.Hit{twelve}}, {math.MaxInt, []api.Hit{twelve}},
	}
	for _, s := range []*version.Store{filled(t, list...), loaded(t, list...)} {
		for _, w := range want {
			checkSpan(t, s, all, w.ts, w.hits...)
		}
	}
}

// P12.2: From is in the span, To is not; neither need be a key that is there.
func TestSpanAtItsEnds(t *testing.T) {
	s := filled(t, row("b", live(1, "1")), row("d", live(1, "2")), row("f", live(1, "3")))
	b, d, f := api.Hit{Key: "b", Ts: 1, Value: "1"}, api.Hit{Key: "d", Ts: 1, Value: "2"}, api.Hit{Key: "f", Ts: 1, Value: "3"}
	want := []struct {
		from, to string
		hits     []api.Hit
	}{
		{"", "z", []api.Hit{b, d, f}}, {"b", "f", []api.Hit{b, d}}, {"b", "f\x00", []api.Hit{b, d, f}},
		{"a", "g", []api.Hit{b, d, f}}, {"c", "e", []api.Hit{d}}, {"d", "d\x00", []api.Hit{d}},
		{"b\x00", "f", []api.Hit{d}}, {"b", "d", []api.Hit{b}}, {"f", "z", []api.Hit{f}},
		{"", "b", nil}, {"", "b\x00", []api.Hit{b}}, {"g", "z", nil}, {"b", "b", nil}, {"c", "c", nil}, {"c", "d", nil},
		// No key is below a To without a byte, and none is between ends that fall.
		{"", "", nil}, {"b", "", nil}, {"f", "b", nil}, {"e", "c", nil}, {"z", "a", nil}, {"g", "b", nil},
	}
	for _, w := range want {
		checkSpan(t, s, api.Span{From: w.from, To: w.to}, 1, w.hits...)
	}
}

// P12.2: a span tells each key by its own version, and leaves out those that are gone or not there yet.
func TestSpanOfSeveralKeys(t *testing.T) {
	s := filled(t,
		row("c", live(4, "c4"), live(6, "c6")),
		row("a", live(5, "a5"), dead(6)),
		row("d", dead(1), live(7, "d7")),
		row("b", live(1, "b1")))
	b := api.Hit{Key: "b", Ts: 1, Value: "b1"}
	checkSpan(t, s, all, 0)
	checkSpan(t, s, all, 1, b)
	checkSpan(t, s, all, 5, api.Hit{Key: "a", Ts: 5, Value: "a5"}, b, api.Hit{Key: "c", Ts: 4, Value: "c4"})
	checkSpan(t, s, all, 6, b, api.Hit{Key: "c", Ts: 6, Value: "c6"})
	checkSpan(t, s, all, 7, b, api.Hit{Key: "c", Ts: 6, Value: "c6"}, api.Hit{Key: "d", Ts: 7, Value: "d7"})
	checkSpan(t, s, api.Span{From: "a", To: "b"}, 9)
}

// P12.2: Newest goes by just this key, Dead or not.
func TestNewest(t *testing.T) {
	s := filled(t, row("b", live(1, ""), live(8, "")), row("d", live(2, ""), dead(4)), row("", live(6, "")))
	for key, want := range map[string]int{"": 6, "b": 8, "d": 4, "a": 0, "c": 0, "e": 0, "b\x00": 0, "bb": 0, "\x00": 0, "\xff": 0} {
		checkNewest(t, s, key, want)
	}
}

// P12.2: Rows rise by key, whatever the order in which they came, and by time, Dead ones among them.
func TestRowsRise(t *testing.T) {
	s := version.New()
	for ts, keys := range []string{"", "cab", "bda", "dac"} {
		for _, key := range []byte(keys) {
			checkPut(t, s, string(key), api.Version{Ts: ts, Value: keys, Dead: keys == "bda"}, api.OK)
		}
	}
	checkRows(t, s,
		row("a", live(1, "cab"), api.Version{Ts: 2, Value: "bda", Dead: true}, live(3, "dac")),
		row("b", live(1, "cab"), api.Version{Ts: 2, Value: "bda", Dead: true}),
		row("c", live(1, "cab"), live(3, "dac")),
		row("d", api.Version{Ts: 2, Value: "bda", Dead: true}, live(3, "dac")))
}

// P12.3: a store that was loaded has just these Rows, and answers as one into which they were put.
func TestLoad(t *testing.T) {
	for _, list := range [][]api.Row{
		nil,
		{},
		{row("", live(1, ""))},
		{row("", dead(1)), row("\x00", live(1, "")), row("\x00\x00", live(math.MaxInt, "x"))},
		{row("a", live(1, "x"), dead(2), live(3, "y")), row("b", live(1, "x")), row("c", api.Version{Ts: 9, Value: "v", Dead: true})},
		{row("a", live(7, "x"), live(math.MaxInt-1, "y"), live(math.MaxInt, "z")), row("\x80", live(1, "")), row("\xff\xff", live(2, ""))},
	} {
		s, other := loaded(t, list...), filled(t, list...)
		checkRows(t, s, list...)
		checkRows(t, other, list...)
		for _, ts := range []int{0, 1, 2, 3, 8, 9, math.MaxInt} {
			checkSpan(t, s, all, ts, other.Span(all, ts)...)
		}
		for _, r := range list {
			last := r.List[len(r.List)-1].Ts
			checkNewest(t, s, r.Key, last)
			checkPut(t, s, r.Key, live(last, ""), api.ErrOld)
		}
		checkPut(t, s, "aa", live(1, "new"), api.OK)
		checkNewest(t, s, "aa", 1)
	}
}

// checkNoLoad looks at what Load answers to rows that may not be.
func checkNoLoad(t *testing.T, what string, list ...api.Row) {
	t.Helper()
	if s, err := version.Load(list); s != nil || err != api.ErrForm {
		t.Errorf("%s: Load(%#v): %v, %d, not nil, ErrForm", what, list, s, err)
	}
}

// P12.3: versions that may not be, at the front, in the middle and at the end of rows that may be.
func TestLoadVersionsOfAnotherForm(t *testing.T) {
	good := []api.Row{row("b", live(2, "x"), dead(4)), row("d", live(1, "y")), row("f", live(3, "z"))}
	wrong := []struct {
		what string
		list []api.Version
	}{
		{"no version", nil},
		{"no version, not nil", []api.Version{}},
		{"the time 0", []api.Version{live(0, "")}},
		{"a time below 0", []api.Version{live(-1, "")}},
		{"the least time", []api.Version{dead(math.MinInt)}},
		{"0, then 1", []api.Version{live(0, ""), live(1, "")}},
		{"below 0, then 1", []api.Version{dead(-1), live(1, "")}},
		{"one time twice", []api.Version{live(5, "x"), live(5, "y")}},
		{"one time twice, then Dead", []api.Version{live(5, "x"), dead(5)}},
		{"falling", []api.Version{live(5, "x"), live(4, "y")}},
		{"falling at the end", []api.Version{live(5, "x"), live(6, "y"), live(5, "z")}},
		{"falling at the front", []api.Version{live(7, "x"), live(6, "y"), live(8, "z")}},
		{"falling to 0", []api.Version{live(1, "x"), live(0, "y")}},
		{"falling all the way", []api.Version{live(math.MaxInt, ""), live(math.MinInt, "")}},
	}
	for _, w := range wrong {
		for i := range good {
			list := slices.Clone(good)
			list[i].List = w.list
			checkNoLoad(t, w.what, list...)
			checkNoLoad(t, w.what+", alone", list[i])
		}
	}
}

// P12.3: keys that don't rise, wherever that is.
func TestLoadKeysOfAnotherForm(t *testing.T) {
	for _, keys := range [][]string{
		{"a", "a"}, {"", ""}, {"a", "b", "b"}, {"a", "a", "b"}, {"a", "b", "b", "c"}, {"b", "a"}, {"a", ""},
		{"a", "c", "b"}, {"b", "a", "c"}, {"a", "c", "b", "d"}, {"a", "b", "a"}, {"b", "c", "a"},
		// As bytes: a longer one behind its beginning, great bytes behind small ones, capitals ahead.
		{"aa", "a"}, {"a\x00", "a"}, {"\x80", "z"}, {"\xff", "\u00e9"}, {"a", "B"}, {"10", "1"}, {"9", "10"},
	} {
		var list []api.Row
		for _, key := range keys {
			list = append(list, row(key, live(1, "x")))
		}
		checkNoLoad(t, "keys that don't rise", list...)
	}
}

// P12.4: keys stand as bytes do, in all that is told.
func TestKeysStandAsBytes(t *testing.T) {
	rising := []string{
		"", "\x00", "\x00\x00", "\x00\xff", "\x01", "1", "10", "9", "B", "a", "a\x00", "aa", "b",
		"\x7f", "\x80", "\xc3", "\u00e9", "\xc3\xff", "\u4e2d", "\U0001f600", "\xfe", "\xff", "\xff\x00", "\xff\xff",
	}
	var rows []api.Row
	var hits []api.Hit
	for _, key := range rising {
		rows = append(rows, row(key, live(3, "of "+key)))
		hits = append(hits, api.Hit{Key: key, Ts: 3, Value: "of " + key})
	}
	backward := slices.Clone(rows)
	slices.Reverse(backward)
	for _, s := range []*version.Store{filled(t, rows...), filled(t, backward...), loaded(t, rows...)} {
		checkRows(t, s, rows...)
		checkSpan(t, s, all, 3, hits...)
		for i, from := range rising {
			checkNewest(t, s, from, 3)
			for j, to := range rising {
				checkSpan(t, s, api.Span{From: from, To: to}, 3, hits[i:max(i, j)]...)
			}
		}
	}
}

// P12.1, P12.4: a nil store has nothing, and takes nothing, whatever else is wrong.
func TestNilStore(t *testing.T) {
	var s *version.Store
	checkPut(t, s, "k", live(1, "x"), api.ErrNil)
	checkPut(t, s, "k", live(0, "x"), api.ErrNil)
	checkPut(t, s, "", api.Version{}, api.ErrNil)
	checkEmpty(t, s)
}

// Rule 1: a store that New didn't make doesn't panic; it has nothing until it is told.
func TestZeroStore(t *testing.T) {
	var s version.Store
	checkEmpty(t, &s)
	checkPut(t, &s, "k", live(2, "x"), api.OK)
	checkRows(t, &s, row("k", live(2, "x")))
}

// P12.4: whoever changes what was told, or writes behind it, changes nothing in the store.
func TestWhatIsToldIsNewMemory(t *testing.T) {
	want := []api.Row{row("a", live(1, "x"), live(2, "y"), live(3, "z")), row("b", live(4, "v")), row("c", dead(5))}
	for _, s := range []*version.Store{filled(t, want...), loaded(t, want...)} {
		hits := s.Span(all, 9)
		spoilt := append(hits, api.Hit{Key: "q"})
		clear(spoilt)
		clear(hits[:cap(hits)])
		spoil(s.Rows())
		checkRows(t, s, want...)
		checkSpan(t, s, all, 9, api.Hit{Key: "a", Ts: 3, Value: "z"}, api.Hit{Key: "b", Ts: 4, Value: "v"})
	}
}

// spoil changes all of some rows, and the spare room behind all of their lists.
func spoil(rows []api.Row) {
	for i := range rows {
		list := rows[i].List[:cap(rows[i].List)]
		for j := range list {
			list[j] = api.Version{Ts: -7, Value: "spoilt", Dead: true}
		}
	}
	rows = rows[:cap(rows)]
	for i := range rows {
		rows[i] = api.Row{Key: "spoilt"}
	}
}

// P12.4: what was told stays as it is, whatever the store is told later.
func TestWhatWasToldStays(t *testing.T) {
	first := []api.Row{row("b", live(1, "x"), live(2, "y"), live(3, "z")), row("d", live(4, "v"))}
	s := filled(t, first...)
	rows, hits := s.Rows(), s.Span(all, 9)
	for ts := range 20 {
		for _, key := range []string{"a", "b", "c", "d", "e"} {
			s.Put(key, live(10+ts, "later"))
		}
	}
	if !sameRows(rows, first) {
		t.Fatalf("the rows told first are now %#v", rows)
	}
	if want := []api.Hit{{Key: "b", Ts: 3, Value: "z"}, {Key: "d", Ts: 4, Value: "v"}}; !slices.Equal(hits, want) {
		t.Fatalf("the hits told first are now %#v", hits)
	}
}

// P12.4: no two lists of one answer share memory: one may be written on into its spare room.
func TestListsOfAnAnswerAreApart(t *testing.T) {
	want := []api.Row{row("a", live(1, "x")), row("b", live(2, "y"), live(3, "z")), row("c", live(4, "v"))}
	rows := loaded(t, want...).Rows()
	for i := range rows {
		_ = append(rows[i].List, live(99, "behind"))
	}
	if !sameRows(rows, want) {
		t.Fatalf("Rows: %#v, not %#v", rows, want)
	}
}

// Rule 5: rows that are handed in stay as they are, their spare room too, and are not kept.
func TestRowsHandedInAreNotKept(t *testing.T) {
	backing := []api.Version{live(1, "x"), live(2, "y"), live(3, "spare"), live(4, "spare")}
	handed := []api.Row{{Key: "a", List: backing[:2]}, {Key: "b", List: backing[1:2]}, row("spare", live(9, "spare"))}
	before, kept := slices.Clone(backing), cloneRows(handed)
	s := loaded(t, handed[:2]...)
	checkPut(t, s, "a", live(7, "new"), api.OK)
	checkPut(t, s, "b", live(8, "new"), api.OK)
	checkPut(t, s, "c", live(9, "new"), api.OK)
	if !slices.Equal(backing, before) || !sameRows(handed, kept) {
		t.Fatalf("what was handed in is now %#v, %#v", backing, handed)
	}
	spoil(handed)
	checkRows(t, s,
		row("a", live(1, "x"), live(2, "y"), live(7, "new")),
		row("b", live(2, "y"), live(8, "new")),
		row("c", live(9, "new")))
}

// P12.3: two stores of one list never meet.
func TestStoresOfOneListAreApart(t *testing.T) {
	list := []api.Row{row("a", live(1, "x"))}
	one, two := loaded(t, list...), loaded(t, list...)
	checkPut(t, one, "a", live(2, "one"), api.OK)
	checkPut(t, two, "a", live(2, "two"), api.OK)
	checkRows(t, one, row("a", live(1, "x"), live(2, "one")))
	checkRows(t, two, row("a", live(1, "x"), live(2, "two")))
	checkRows(t, loaded(t, list...), list...)
}
