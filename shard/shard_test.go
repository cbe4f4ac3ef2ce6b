package shard_test

import (
	"math"
	"slices"
	"strings"
	"testing"

	"lintel/api"
	"lintel/shard"
)

// all is a span that has every key of these tests.
var all = api.Span{From: "", To: strings.Repeat("\xff", 9)}

var one, two, three = tid(1), tid(2), tid(3)

func tid(seq int) api.Tid { return api.Tid{Node: 1, Boot: 2, Seq: seq} }

func span(from, to string) api.Span { return api.Span{From: from, To: to} }

func read(from, to string, seen ...api.Stamp) api.Read {
	return api.Read{Span: span(from, to), Seen: seen}
}

func stamp(key string, ts int) api.Stamp { return api.Stamp{Key: key, Ts: ts} }

func hit(key string, ts int, value string) api.Hit {
	return api.Hit{Key: key, Ts: ts, Value: value}
}

func reads(list ...api.Read) []api.Read { return list }

// writes answers writes of these keys, each with a value that names it.
func writes(keys ...string) []api.Write {
	var list []api.Write
	for _, key := range keys {
		list = append(list, api.Write{Key: key, Value: "of " + key})
	}
	return list
}

func prepare(t api.Tid, r []api.Read, w []api.Write) api.Command {
	return api.Command{Kind: api.Prepare, Txn: t, Home: 3, Until: 100 + t.Seq, Reads: r, Writes: w}
}

func commit(t api.Tid, least, until int) api.Command {
	return api.Command{Kind: api.Commit, Txn: t, Min: least, Until: until}
}

func abort(t api.Tid) api.Command { return api.Command{Kind: api.Abort, Txn: t} }

func resolve(t api.Tid, ts int) api.Command {
	return api.Command{Kind: api.Resolve, Txn: t, Ts: ts}
}

func isBusy(t api.Tid) api.Result {
	return api.Result{Err: api.ErrBusy, Txn: t, Until: 100 + t.Seq}
}

var isOver, isStale = api.Result{Err: api.ErrOver}, api.Result{Err: api.ErrStale}

// isNew is what a command is answered that was done now.
func isNew(ts int) api.Result { return api.Result{Ts: ts, New: true} }

func checkDo(t *testing.T, s *shard.Shard, at int, c api.Command, want api.Result) {
	t.Helper()
	if got := s.Do(at, c); got != want {
		t.Fatalf("Do(%d, %+v): %+v, not %+v", at, c, got, want)
	}
}

// checkRefused looks at what a command is answered that may change nothing.
func checkRefused(t *testing.T, s *shard.Shard, at int, c api.Command, want api.Result) {
	t.Helper()
	before := s.Save()
	checkDo(t, s, at, c, want)
	checkSave(t, s, before)
}

func checkSpan(t *testing.T, s *shard.Shard, p api.Span, want ...api.Hit) {
	t.Helper()
	if got := s.Span(p); !slices.Equal(got, want) {
		t.Fatalf("Span(%q): %+v, not %+v", p, got, want)
	}
}

func checkRecord(t *testing.T, s *shard.Shard, who api.Tid, want int, there bool) {
	t.Helper()
	if got, ok := s.Record(who); got != want || ok != there {
		t.Fatalf("Record(%v): %d, %v, not %d, %v", who, got, ok, want, there)
	}
}

func checkLocks(t *testing.T, s *shard.Shard, want ...api.Lock) {
	t.Helper()
	if got := s.Locks(); !sameLocks(got, want) {
		t.Fatalf("Locks: %+v, not %+v", got, want)
	}
}

func checkSave(t *testing.T, s *shard.Shard, want api.Range) {
	t.Helper()
	if got := s.Save(); !same(got, want) {
		t.Fatalf("Save: %+v, not %+v", got, want)
	}
}

func same(a, b api.Range) bool {
	rows := slices.EqualFunc(a.Rows, b.Rows, func(x, y api.Row) bool {
		return x.Key == y.Key && slices.Equal(x.List, y.List)
	})
	return rows && sameLocks(a.Locks, b.Locks) && slices.Equal(a.Records, b.Records) &&
		slices.Equal(a.Over, b.Over) && a.High == b.High
}

func sameLocks(a, b []api.Lock) bool {
	return slices.EqualFunc(a, b, func(x, y api.Lock) bool {
		return x.Txn == y.Txn && x.Home == y.Home && x.Until == y.Until &&
			slices.Equal(x.Spans, y.Spans) && slices.Equal(x.Writes, y.Writes)
	})
}

// written answers a shard in which a transaction of its own wrote these keys, at the times 10, 11, ..
func written(t *testing.T, keys ...string) *shard.Shard {
	t.Helper()
	s := shard.New()
	for i, key := range keys {
		who := api.Tid{Node: 4, Seq: i}
		s.Do(0, prepare(who, nil, writes(key)))
		checkDo(t, s, 0, resolve(who, 10+i), isNew(0))
	}
	return s
}

func loaded(t *testing.T, x api.Range) *shard.Shard {
	t.Helper()
	s, err := shard.Load(x)
	if s == nil || err != api.OK {
		t.Fatalf("Load(%+v): %v, %d, not a shard, OK", x, s, err)
	}
	return s
}

// P13.1: the chapter's examples.
func TestExamples(t *testing.T) {
	s := shard.New()
	checkDo(t, s, 5, prepare(one, nil, writes("a")), isNew(0))
	checkDo(t, s, 5, prepare(two, nil, writes("a")), isBusy(one))
	checkDo(t, s, 5, commit(one, 1, 9), isNew(5))
	checkSpan(t, s, all)
	checkDo(t, s, 5, resolve(one, 5), isNew(0))
	checkSpan(t, s, all, hit("a", 5, "of a"))
	checkDo(t, s, 5, prepare(one, nil, nil), isOver)
	checkDo(t, s, 5, prepare(two, nil, writes("a")), isNew(5))
}

// P13.1: a new shard has nothing, and two of them never meet.
func TestNewIsEmpty(t *testing.T) {
	a, b := shard.New(), shard.New()
	if a == nil || b == nil || a == b {
		t.Fatal("New answered nil, or one shard twice")
	}
	checkEmpty(t, a)
	checkDo(t, a, 1, prepare(one, nil, writes("a")), isNew(0))
	checkDo(t, a, 1, commit(one, 1, 9), isNew(1))
	checkDo(t, a, 1, resolve(two, 8), isNew(0))
	checkEmpty(t, b)
}

func checkEmpty(t *testing.T, s *shard.Shard) {
	t.Helper()
	checkSave(t, s, api.Range{})
	checkSpan(t, s, all)
	checkLocks(t, s)
	checkRecord(t, s, one, 0, false)
	checkRecord(t, s, api.Tid{}, 0, false)
}

// P13.1: commands of the board, and those that there aren't, are refused.
func TestOtherKinds(t *testing.T) {
	s := written(t, "a")
	c := prepare(one, nil, writes("b"))
	for _, kind := range []int{0, -1, 5, 10, api.Grant, api.Submit, api.Drain, api.Go, api.Mark, api.Fail, 17, math.MinInt, math.MaxInt} {
		c.Kind = kind
		checkRefused(t, s, 5, c, api.Result{Err: api.ErrArg})
		c.Txn = api.Tid{Node: 4}
		checkRefused(t, s, 5, c, api.Result{Err: api.ErrArg})
	}
}

// P13.1, P13.4: a nil shard has nothing, and takes nothing, whatever else is wrong.
func TestNilShard(t *testing.T) {
	var s *shard.Shard
	for _, c := range []api.Command{{}, prepare(one, nil, writes("a")), commit(one, 1, 9), abort(one), resolve(one, 1), {Kind: api.Grant}} {
		checkDo(t, s, 5, c, api.Result{Err: api.ErrNil})
	}
	checkEmpty(t, s)
}

// Rule 1: a shard that New didn't make doesn't panic; it has nothing until it is told.
func TestZeroShard(t *testing.T) {
	for _, c := range []api.Command{commit(one, 7, 9), prepare(one, nil, writes("a")), resolve(one, 7), abort(one), {}} {
		var s shard.Shard
		checkEmpty(t, &s)
		want := shard.New()
		if got, should := s.Do(1, c), want.Do(1, c); got != should {
			t.Fatalf("Do(1, %+v): %+v, not %+v", c, got, should)
		}
		checkSave(t, &s, want.Save())
		checkDo(t, &s, 2, prepare(two, nil, writes("b")), isNew(s.Save().High))
		checkDo(t, &s, 2, resolve(two, 9), isNew(0))
		checkSpan(t, &s, all, hit("b", 9, "of b"))
	}
}

// P13.1: a lock has all that it was asked for; it is there once, and it goes when its transaction is over here.
func TestLocksComeAndGo(t *testing.T) {
	s := written(t, "m")
	w := []api.Write{{Key: "x", Value: "1"}, {Key: "y", Dead: true}}
	r := reads(read("a", "c"), read("m", "n", stamp("m", 10)))
	checkDo(t, s, 5, prepare(two, r, w), isNew(10))
	checkDo(t, s, 5, prepare(one, nil, nil), isNew(10))
	checkDo(t, s, 5, prepare(three, reads(read("m", "n", stamp("m", 10))), nil), isNew(10))
	first := api.Lock{Txn: two, Home: 3, Until: 102, Spans: []api.Span{span("a", "c"), span("m", "n")}, Writes: w}
	second := api.Lock{Txn: one, Home: 3, Until: 101}
	third := api.Lock{Txn: three, Home: 3, Until: 103, Spans: []api.Span{span("m", "n")}}
	checkLocks(t, s, first, second, third)
	checkDo(t, s, 5, resolve(one, 0), isNew(0))
	checkLocks(t, s, first, third)
	checkDo(t, s, 5, resolve(two, 20), isNew(0))
	checkLocks(t, s, third)
	checkSpan(t, s, all, hit("m", 10, "of m"), hit("x", 20, "1"))
}

// P13.1: who has a lock is answered OK again, whatever it asks for now, and keeps the lock that it has.
func TestPrepareTwice(t *testing.T) {
	s := written(t, "a", "b")
	checkDo(t, s, 5, prepare(one, reads(read("a", "b", stamp("a", 10))), writes("x")), isNew(11))
	checkDo(t, s, 5, prepare(two, nil, writes("y")), isNew(11))
	checkDo(t, s, 5, resolve(three, 30), isNew(0))
	again := api.Result{Ts: 30}
	checkRefused(t, s, 5, prepare(one, reads(read("a", "b", stamp("a", 10))), writes("x")), again)
	checkRefused(t, s, 5, prepare(one, nil, nil), again)
	checkRefused(t, s, 5, prepare(one, reads(read("y", "z"), read("a", "b")), writes("y")), again)
	checkRefused(t, s, 5, api.Command{Kind: api.Prepare, Txn: one, Home: 9, Until: -1}, again)
}

// P13.1, P13.3: a transaction that is over here is never prepared again, whatever it was.
func TestPrepareOver(t *testing.T) {
	s := shard.New()
	for i, ts := range []int{0, 7, -3} {
		checkDo(t, s, 5, prepare(tid(i), nil, writes("a")), isNew(s.Save().High))
		checkDo(t, s, 5, resolve(tid(i), ts), isNew(0))
	}
	checkDo(t, s, 5, resolve(tid(3), 0), isNew(0))
	for i := range 4 {
		checkRefused(t, s, 5, prepare(tid(i), nil, nil), isOver)
		checkRefused(t, s, 5, prepare(tid(i), reads(read("a", "b")), writes("a")), isOver)
	}
	for _, near := range []api.Tid{{Node: 1, Boot: 2, Seq: 4}, {Node: 1, Boot: 1, Seq: 1}, {Node: 2, Boot: 2, Seq: 1}, {Node: 2, Boot: 1, Seq: 1}} {
		checkDo(t, s, 5, prepare(near, nil, nil), isNew(7))
	}
}

// P13.1: a record is no lock: a transaction that has one, and isn't over here, is prepared.
func TestPrepareGoesByWhatIsOver(t *testing.T) {
	s := shard.New()
	checkDo(t, s, 5, abort(one), isNew(0))
	checkDo(t, s, 5, commit(two, 0, 9), isNew(5))
	checkDo(t, s, 5, prepare(one, nil, writes("a")), isNew(0))
	checkDo(t, s, 5, prepare(two, nil, writes("b")), isNew(0))
}

// P13.1: what is read must be free of others' writes, from the span's first key to just below its end.
func TestReadOfWhatIsHeld(t *testing.T) {
	want := []struct {
		from, to string
		held     bool
	}{
		{"k", "l", true}, {"k", "k\x00", true}, {"", "z", true}, {"a", "k\x00", true}, {"j\xff", "kk", true},
		{"", "k", false}, {"k\x00", "z", false}, {"a", "b", false}, {"l", "m", false}, {"k", "k", false},
		// Spans that have no key.
		{"", "", false}, {"k", "", false}, {"z", "a", false}, {"l", "j", false}, {"l", "k", false},
	}
	for _, w := range want {
		s := shard.New()
		checkDo(t, s, 5, prepare(one, nil, writes("k")), isNew(0))
		c := prepare(two, reads(read(w.from, w.to)), nil)
		if w.held {
			checkRefused(t, s, 5, c, isBusy(one))
			continue
		}
		checkDo(t, s, 5, c, isNew(0))
	}
}

// P13.1: what is written must be free of others' writes and reads.
func TestWriteOfWhatIsHeldOrCovered(t *testing.T) {
	s := written(t, "d")
	checkDo(t, s, 5, prepare(one, reads(read("b", "d"), read("f", "g")), writes("k", "m")), isNew(10))
	for _, key := range []string{"k", "m", "b", "b\x00", "c", "c\xff\xff", "f", "fz"} {
		checkRefused(t, s, 5, prepare(two, nil, writes(key)), isBusy(one))
		checkRefused(t, s, 5, prepare(two, nil, writes("a", key)), isBusy(one))
	}
	for i, key := range []string{"", "a", "a\xff", "d", "e", "g", "k\x00", "j\xff", "l", "n", "z"} {
		checkDo(t, s, 5, prepare(tid(10+i), nil, writes(key)), isNew(10))
	}
}

// P13.1: a lock whose spans have no key covers none; two locks may cover one key.
func TestLocksThatDoNotMeet(t *testing.T) {
	s := shard.New()
	checkDo(t, s, 5, prepare(one, reads(read("d", "b"), read("c", "c"), read("a", "")), nil), isNew(0))
	checkDo(t, s, 5, prepare(two, nil, writes("a", "b", "c", "d", "")), isNew(0))
	checkDo(t, s, 5, prepare(three, reads(read("e", "g")), nil), isNew(0))
	checkDo(t, s, 5, prepare(tid(4), reads(read("f", "h")), nil), isNew(0))
	checkRefused(t, s, 5, prepare(tid(5), nil, writes("f")), isBusy(three))
	checkRefused(t, s, 5, prepare(tid(5), nil, writes("g")), isBusy(tid(4)))
}

// P13.1: a transaction may write what it reads, and one key twice: it is not in its own way.
func TestWriteOfWhatIsRead(t *testing.T) {
	s := written(t, "a")
	checkDo(t, s, 5, prepare(one, reads(read("a", "c", stamp("a", 10)), read("a", "c", stamp("a", 10))), writes("a", "b", "a")), isNew(10))
	checkRefused(t, s, 5, prepare(two, reads(read("b", "c")), nil), isBusy(one))
}

// P13.1: with ErrBusy comes the first lock, in the order of the locks, that is in the way of the first thing for which one is.
func TestBusyTellsTheFirst(t *testing.T) {
	s := shard.New()
	checkDo(t, s, 5, prepare(three, reads(read("p", "q")), nil), isNew(0))
	checkDo(t, s, 5, prepare(one, nil, writes("d", "x")), isNew(0))
	checkDo(t, s, 5, prepare(two, reads(read("p", "r")), writes("b")), isNew(0))
	for _, w := range []struct {
		c    api.Command
		want api.Tid
	}{
		{prepare(tid(9), reads(read("a", "z")), nil), one},
		{prepare(tid(9), reads(read("a", "c"), read("c", "e")), nil), two},
		{prepare(tid(9), reads(read("c", "e"), read("a", "c")), nil), one},
		{prepare(tid(9), reads(read("a", "c")), writes("d")), two},
		{prepare(tid(9), reads(read("e", "f")), writes("p")), three},
		{prepare(tid(9), nil, writes("q", "p")), two},
		{prepare(tid(9), nil, writes("p", "q")), three},
		{prepare(tid(9), nil, writes("a", "b", "d")), two},
		{prepare(tid(9), nil, writes("d", "b")), one},
	} {
		checkRefused(t, s, 5, w.c, isBusy(w.want))
	}
	checkDo(t, s, 5, resolve(three, 0), isNew(0))
	checkRefused(t, s, 5, prepare(tid(9), nil, writes("p")), isBusy(two))
}

// P13.1: the first of several locks counts, whether it holds the key or covers it.
func TestBusyHoldsOrCovers(t *testing.T) {
	x := api.Range{Locks: []api.Lock{
		{Txn: one, Until: 101, Spans: []api.Span{span("a", "c")}},
		{Txn: two, Until: 102, Writes: writes("b", "d")},
		{Txn: three, Until: 103, Spans: []api.Span{span("d", "e")}},
	}}
	s := loaded(t, x)
	checkRefused(t, s, 5, prepare(tid(9), nil, writes("b")), isBusy(one))
	checkRefused(t, s, 5, prepare(tid(9), nil, writes("d")), isBusy(two))
	checkRefused(t, s, 5, prepare(tid(9), reads(read("a", "e")), nil), isBusy(two))
}

// P13.1: what was seen must be just what there is: the same keys, of the same times, in order.
func TestStale(t *testing.T) {
	s := written(t, "b", "c", "d", "e")
	checkDo(t, s, 5, prepare(one, nil, []api.Write{{Key: "d", Dead: true}}), isNew(13))
	checkDo(t, s, 5, resolve(one, 14), isNew(0))
	b, c, e := stamp("b", 10), stamp("c", 11), stamp("e", 13)
	for i, r := range []api.Read{
		read("a", "z", b, c, e), read("b", "c", b), read("c", "e", c), read("c", "e\x00", c, e), read("d", "e"),
		read("b\x00", "c"), read("f", "z"), read("", ""), read("z", "a"), {Span: span("d", "e"), Seen: []api.Stamp{}},
	} {
		checkDo(t, s, 5, prepare(tid(10+i), reads(r), nil), isNew(14))
	}
	for _, r := range []api.Read{
		read("a", "z"), read("a", "z", b), read("a", "z", b, c), read("a", "z", c, e), read("a", "z", b, e),
		read("a", "z", c, b, e), read("a", "z", b, c, e, e), read("a", "z", b, b, c, e), read("a", "z", b, c, e, stamp("f", 1)),
		read("a", "z", b, c, stamp("d", 12), e), read("a", "z", b, c, stamp("d", 14), e), read("d", "e", stamp("d", 14)),
		read("b", "c"), read("b", "c", c), read("b", "c", b, c), read("b", "c", stamp("b", 9)), read("b", "c", stamp("b", 11)),
		read("b", "c", stamp("b", 0)), read("b", "c", stamp("a", 10)), read("b", "c", stamp("B", 10)), read("b", "c", stamp("", 10)),
		read("d", "e", stamp("d", 12)), read("d", "e", stamp("d", 0)), read("f", "z", stamp("f", 0)), read("z", "a", b), read("", "", b),
	} {
		checkRefused(t, s, 5, prepare(two, reads(r), nil), isStale)
		checkRefused(t, s, 5, prepare(two, reads(read("x", "y"), r, read("y", "z")), writes("u")), isStale)
	}
}

// P13.1: of one read ErrBusy is ahead of ErrStale; of several the first that is refused counts; writes come behind all reads.
func TestBusyAndStaleInTurn(t *testing.T) {
	s := written(t, "a", "m")
	checkDo(t, s, 5, prepare(one, nil, writes("a")), isNew(11))
	checkDo(t, s, 5, prepare(three, nil, writes("w")), isNew(11))
	held, stale, good := read("a", "b"), read("m", "n"), read("m", "n", stamp("m", 11))
	for _, w := range []struct {
		c    api.Command
		want api.Result
	}{
		{prepare(two, reads(held), nil), isBusy(one)},
		{prepare(two, reads(stale), nil), isStale},
		{prepare(two, reads(held, stale), nil), isBusy(one)},
		{prepare(two, reads(stale, held), nil), isStale},
		{prepare(two, reads(good, stale, held), nil), isStale},
		{prepare(two, reads(good, held, stale), nil), isBusy(one)},
		{prepare(two, reads(read("a", "n")), nil), isBusy(one)},
		{prepare(two, reads(stale), writes("w")), isStale},
		{prepare(two, reads(good, held), writes("w")), isBusy(one)},
		{prepare(two, reads(good), writes("w")), isBusy(three)},
	} {
		checkRefused(t, s, 5, w.c, w.want)
	}
	checkDo(t, s, 5, prepare(two, reads(good), nil), isNew(11))
}

// P13.1: the time of a commit is the greatest of Min, the clock and 1, and may be Until, but not above it.
func TestCommitTimes(t *testing.T) {
	const least, most = math.MinInt, math.MaxInt
	late := api.Result{Err: api.ErrLate, New: true}
	for _, w := range []struct {
		at, min, until int
		want           api.Result
	}{
		{5, 1, 9, isNew(5)}, {5, 7, 9, isNew(7)}, {5, 5, 5, isNew(5)}, {9, 1, 9, isNew(9)}, {1, 9, 9, isNew(9)},
		{0, 0, 1, isNew(1)}, {-5, -7, 9, isNew(1)}, {least, least, most, isNew(1)}, {most, 0, most, isNew(most)}, {0, most, most, isNew(most)},
		{10, 1, 9, late}, {1, 10, 9, late}, {0, 0, 0, late}, {-3, -3, -2, late}, {5, 5, 4, late}, {most, 1, most - 1, late}, {1, 1, least, late},
	} {
		s := shard.New()
		checkDo(t, s, w.at, commit(one, w.min, w.until), w.want)
		checkRecord(t, s, one, w.want.Ts, true)
		checkRecord(t, s, two, 0, false)
		checkSave(t, s, api.Range{Records: []api.Record{{Txn: one, Ts: w.want.Ts}}})
	}
}

// P13.1, P13.3: a transaction has one record, for good: what it was committed with, or that it was not.
func TestOneRecord(t *testing.T) {
	s := shard.New()
	checkDo(t, s, 5, commit(one, 7, 9), isNew(7))
	checkDo(t, s, 5, abort(two), isNew(0))
	checkDo(t, s, 5, commit(three, 7, 6), api.Result{Err: api.ErrLate, New: true})
	for _, at := range []int{0, 5, 8, 50} {
		checkRefused(t, s, at, commit(one, 1, 9), api.Result{Ts: 7})
		checkRefused(t, s, at, commit(one, 8, 2), api.Result{Ts: 7})
		checkRefused(t, s, at, abort(one), api.Result{Err: api.ErrOver, Ts: 7})
		for _, gone := range []api.Tid{two, three} {
			checkRefused(t, s, at, commit(gone, 1, 99), isOver)
			checkRefused(t, s, at, commit(gone, 1, 0), isOver)
			checkRefused(t, s, at, abort(gone), api.Result{})
		}
	}
	checkRecord(t, s, one, 7, true)
	checkRecord(t, s, two, 0, true)
	checkRecord(t, s, three, 0, true)
	checkDo(t, s, 5, resolve(one, 7), isNew(0))
	checkDo(t, s, 5, resolve(two, 3), isNew(0))
	checkSave(t, s, api.Range{Records: []api.Record{{Txn: one, Ts: 7}, {Txn: two}, {Txn: three}}, Over: []api.Tid{one, two}, High: 7})
}

// P13.1: Commit and Abort go by records alone: neither a lock nor that it is over here matters, and they touch neither.
func TestRecordsStandApart(t *testing.T) {
	s := shard.New()
	checkDo(t, s, 5, prepare(one, nil, writes("a")), isNew(0))
	checkDo(t, s, 5, resolve(two, 0), isNew(0))
	checkDo(t, s, 5, commit(one, 0, 9), isNew(5))
	checkDo(t, s, 6, commit(two, 0, 9), isNew(6))
	checkDo(t, s, 6, abort(three), isNew(0))
	checkSave(t, s, api.Range{
		Locks:   []api.Lock{{Txn: one, Home: 3, Until: 101, Writes: writes("a")}},
		Records: []api.Record{{Txn: one, Ts: 5}, {Txn: two, Ts: 6}, {Txn: three}},
		Over:    []api.Tid{two},
	})
}

// P13.1: a transaction that is resolved with a time has its writes from then on; with none it leaves nothing.
func TestResolve(t *testing.T) {
	s := written(t, "a", "b")
	w := []api.Write{{Key: "a", Dead: true}, {Key: "c", Value: "new"}, {Key: "d"}}
	for i, ts := range []int{0, -1, math.MinInt} {
		checkDo(t, s, 5, prepare(tid(i), nil, w), isNew(11))
		checkDo(t, s, 5, resolve(tid(i), ts), isNew(0))
		checkLocks(t, s)
		checkSpan(t, s, all, hit("a", 10, "of a"), hit("b", 11, "of b"))
	}
	checkDo(t, s, 5, prepare(tid(3), nil, w), isNew(11))
	checkDo(t, s, 5, resolve(tid(3), 15), isNew(0))
	checkSpan(t, s, all, hit("b", 11, "of b"), hit("c", 15, "new"), hit("d", 15, ""))
	got := s.Save()
	want := []api.Row{
		{Key: "a", List: []api.Version{{Ts: 10, Value: "of a"}, {Ts: 15, Dead: true}}},
		{Key: "b", List: []api.Version{{Ts: 11, Value: "of b"}}},
		{Key: "c", List: []api.Version{{Ts: 15, Value: "new"}}},
		{Key: "d", List: []api.Version{{Ts: 15}}},
	}
	if !same(api.Range{Rows: got.Rows}, api.Range{Rows: want}) {
		t.Fatalf("Rows: %+v, not %+v", got.Rows, want)
	}
}

// P13.1: what is over is over: a second Resolve does nothing, whatever its time.
func TestResolveTwice(t *testing.T) {
	s := shard.New()
	for i, ts := range []int{7, 0} {
		checkDo(t, s, 5, prepare(tid(i), nil, writes("a")), isNew(7*i))
		checkDo(t, s, 5, resolve(tid(i), ts), isNew(0))
		for _, again := range []int{ts, 0, -1, 7, 50} {
			checkRefused(t, s, 5, resolve(tid(i), again), api.Result{})
		}
	}
	checkSpan(t, s, all, hit("a", 7, "of a"))
}

// P13.1: a transaction without a lock is over all the same, and its time counts.
func TestResolveWithoutALock(t *testing.T) {
	s := shard.New()
	checkDo(t, s, 5, prepare(two, nil, writes("a")), isNew(0))
	checkDo(t, s, 5, resolve(one, 9), isNew(0))
	checkSave(t, s, api.Range{Locks: []api.Lock{{Txn: two, Home: 3, Until: 102, Writes: writes("a")}}, Over: []api.Tid{one}, High: 9})
	checkRefused(t, s, 5, prepare(one, nil, nil), isOver)
}

// P13.1: High never falls; it is what a Prepare tells.
func TestHigh(t *testing.T) {
	s := shard.New()
	for i, w := range []struct{ ts, high int }{{5, 5}, {3, 5}, {0, 5}, {-9, 5}, {6, 6}, {6, 6}, {math.MaxInt, math.MaxInt}, {7, math.MaxInt}} {
		checkDo(t, s, 5, resolve(tid(i), w.ts), isNew(0))
		if got := s.Save().High; got != w.high {
			t.Fatalf("behind %d High is %d, not %d", w.ts, got, w.high)
		}
		checkDo(t, s, 5, prepare(tid(100+i), nil, nil), isNew(w.high))
	}
}

// P13.1: a write that isn't newer than what its key has is let be; the others of its transaction are done.
func TestWritesThatTheStoreRefuses(t *testing.T) {
	s := written(t, "a", "b", "c")
	checkDo(t, s, 5, prepare(one, nil, []api.Write{{Key: "a", Value: "1"}, {Key: "b", Dead: true}, {Key: "c", Value: "3"}, {Key: "d", Value: "4"}}), isNew(12))
	checkDo(t, s, 5, resolve(one, 11), isNew(0))
	checkSpan(t, s, all, hit("a", 11, "1"), hit("b", 11, "of b"), hit("c", 12, "of c"), hit("d", 11, "4"))
	checkDo(t, s, 5, prepare(two, nil, []api.Write{{Key: "e", Value: "first"}, {Key: "e", Value: "second"}}), isNew(12))
	checkDo(t, s, 5, resolve(two, 20), isNew(0))
	checkSpan(t, s, span("e", "f"), hit("e", 20, "first"))
}

// P13.1: Span tells what is now, up to the greatest time that there is.
func TestSpanIsNow(t *testing.T) {
	s := written(t, "a", "b", "a")
	checkSpan(t, s, all, hit("a", 12, "of a"), hit("b", 11, "of b"))
	checkSpan(t, s, span("a", "b"), hit("a", 12, "of a"))
	checkSpan(t, s, span("b", "c"), hit("b", 11, "of b"))
	checkSpan(t, s, span("a\x00", "b"))
	checkSpan(t, s, span("c", "a"))
	checkSpan(t, s, api.Span{})
	checkDo(t, s, 5, prepare(one, nil, writes("a")), isNew(12))
	checkDo(t, s, 5, resolve(one, math.MaxInt), isNew(0))
	checkSpan(t, s, all, hit("a", math.MaxInt, "of a"), hit("b", 11, "of b"))
	checkDo(t, s, 5, prepare(two, reads(read("a", "b", stamp("a", math.MaxInt))), nil), isNew(math.MaxInt))
}
