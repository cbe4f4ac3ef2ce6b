package deal_test

import (
	"math"
	"reflect"
	"testing"

	"lintel/api"
	"lintel/deal"
	"lintel/split"
)

var me = api.Tid{Node: 1, Boot: 2, Seq: 3}

func span(from, to string) api.Span { return api.Span{From: from, To: to} }

func stamp(key string, ts int) api.Stamp { return api.Stamp{Key: key, Ts: ts} }

func read(from, to string, seen ...api.Stamp) api.Read {
	return api.Read{Span: span(from, to), Seen: seen}
}

func put(key string) api.Write { return api.Write{Key: key, Value: "of " + key} }

func reads(list ...api.Read) []api.Read { return list }

func writes(keys ...string) []api.Write {
	var list []api.Write
	for _, key := range keys {
		list = append(list, put(key))
	}
	return list
}

func splitBy(t *testing.T, bounds ...string) *split.Split {
	t.Helper()
	s, err := split.New(bounds)
	if err != api.OK {
		t.Fatalf("New(%q): %d", bounds, err)
	}
	return s
}

// made answers a deal of me with the call 4, the version 5 and Until 60.
func made(s *split.Split, r []api.Read, w []api.Write) *deal.Deal {
	return deal.New(me, 4, 5, 60, api.Effect{Reads: r, Writes: w}, s)
}

// prepare answers what the deal that made makes asks of a shard first.
func prepare(home, shard int, r []api.Read, w []api.Write) deal.Ask {
	return deal.Ask{Shard: shard, Command: api.Command{Kind: api.Prepare, Txn: me, Home: home, Until: 60, Reads: r, Writes: w}}
}

func commit(home, least int) deal.Ask {
	return deal.Ask{Shard: home, Command: api.Command{Kind: api.Commit, Txn: me, Home: home, Min: least, Until: 60, Version: 5, Call: 4}}
}

func abort(home int) deal.Ask {
	return deal.Ask{Shard: home, Command: api.Command{Kind: api.Abort, Txn: me, Home: home}}
}

func resolve(home, shard, ts int) deal.Ask {
	return deal.Ask{Shard: shard, Command: api.Command{Kind: api.Resolve, Txn: me, Home: home, Ts: ts}}
}

// plain answers asks with nil for each list that is empty.
func plain(list []deal.Ask) []deal.Ask {
	var out []deal.Ask
	for _, a := range list {
		var r []api.Read
		for _, x := range a.Command.Reads {
			r = append(r, api.Read{Span: x.Span, Seen: append([]api.Stamp(nil), x.Seen...)})
		}
		a.Command.Reads, a.Command.Writes = r, append([]api.Write(nil), a.Command.Writes...)
		a.Command.Ddl.Columns = append([]api.Column(nil), a.Command.Ddl.Columns...)
		out = append(out, a)
	}
	return out
}

func checkAsks(t *testing.T, d *deal.Deal, want ...deal.Ask) {
	t.Helper()
	if got := d.Asks(); !reflect.DeepEqual(plain(got), plain(want)) {
		t.Fatalf("Asks:\n%+v, not\n%+v", got, want)
	}
}

func checkOpen(t *testing.T, d *deal.Deal) {
	t.Helper()
	if ts, why, known := d.Verdict(); ts != 0 || why != api.OK || known {
		t.Fatalf("Verdict: %d, %d, %v, not open", ts, why, known)
	}
	checkOver(t, d, false)
}

func checkVerdict(t *testing.T, d *deal.Deal, wantTs int, wantWhy api.Errno) {
	t.Helper()
	if ts, why, known := d.Verdict(); ts != wantTs || why != wantWhy || !known {
		t.Fatalf("Verdict: %d, %d, %v, not %d, %d, true", ts, why, known, wantTs, wantWhy)
	}
}

func checkOver(t *testing.T, d *deal.Deal, want bool) {
	t.Helper()
	if got := d.Over(); got != want {
		t.Fatalf("Over: %v, not %v", got, want)
	}
}

func ok(ts int) api.Result { return api.Result{Ts: ts, New: true} }

func no(why api.Errno) api.Result { return api.Result{Err: why} }

// P22.1, P22.2, P22.3: the chapter's example, and on to its end.
func TestExample(t *testing.T) {
	d := made(splitBy(t, "b"), reads(read("a", "c", stamp("a", 3))), writes("d"))
	zero := prepare(0, 0, reads(read("a", "b", stamp("a", 3))), nil)
	one := prepare(0, 1, reads(read("b", "c")), writes("d"))
	checkAsks(t, d, zero, one)
	checkOpen(t, d)
	d.Told(0, api.Prepare, ok(3))
	checkAsks(t, d, one)
	checkOpen(t, d)
	d.Told(1, api.Prepare, ok(7))
	checkAsks(t, d, commit(0, 8))
	checkOpen(t, d)
	d.Told(0, api.Commit, ok(9))
	checkVerdict(t, d, 9, api.OK)
	checkAsks(t, d, resolve(0, 0, 9), resolve(0, 1, 9))
	checkOver(t, d, false)
	d.Told(1, api.Resolve, ok(0))
	checkAsks(t, d, resolve(0, 0, 9))
	checkOver(t, d, false)
	d.Told(0, api.Resolve, ok(0))
	checkAsks(t, d)
	checkOver(t, d, true)
	checkVerdict(t, d, 9, api.OK)
}

// P22.1: of each shard that is read or written, rising, the parts of the reads and the writes, in order, as they were handed in; no other shard is asked, and the least of them is the home.
func TestParts(t *testing.T) {
	s := splitBy(t, "b", "d", "f")
	a := stamp("a", 1)
	for _, x := range []struct {
		reads  []api.Read
		writes []api.Write
		want   []deal.Ask
	}{
		{nil, writes("z"), []deal.Ask{prepare(3, 3, nil, writes("z"))}},
		{nil, writes("e", "a", "ee", "aa", "d"), []deal.Ask{prepare(0, 0, nil, writes("a", "aa")), prepare(0, 2, nil, writes("e", "ee", "d"))}},
		// A bound is its shard's first key.
		{nil, writes("b", "a\xff"), []deal.Ask{prepare(0, 0, nil, writes("a\xff")), prepare(0, 1, nil, writes("b"))}},
		{reads(read("b", "d")), nil, []deal.Ask{prepare(1, 1, reads(read("b", "d")), nil)}},
		{reads(read("b", "d\x00")), nil, []deal.Ask{prepare(1, 1, reads(read("b", "d")), nil), prepare(1, 2, reads(read("d", "d\x00")), nil)}},
		{reads(read("e", "ee"), read("c", "cc")), writes("f"), []deal.Ask{
			prepare(1, 1, reads(read("c", "cc")), nil), prepare(1, 2, reads(read("e", "ee")), nil), prepare(1, 3, nil, writes("f")),
		}},
		// Spans that meet, or are the same, stay as they are, each with what was seen in it.
		{reads(read("a", "c", a, stamp("b", 2)), read("", "bb", a), read("a", "c", stamp("b", 5))), nil, []deal.Ask{
			prepare(0, 0, reads(read("a", "b", a), read("", "b", a), read("a", "b")), nil),
			prepare(0, 1, reads(read("b", "c", stamp("b", 2)), read("b", "bb"), read("b", "c", stamp("b", 5))), nil),
		}},
		// A span in all shards; what was seen at bounds, and just ahead of them.
		{reads(read("", "g", stamp("", 1), stamp("a\xff", 2), stamp("b", 3), stamp("c", 4), stamp("f", 5), stamp("ff", 6))), nil, []deal.Ask{
			prepare(0, 0, reads(read("", "b", stamp("", 1), stamp("a\xff", 2))), nil),
			prepare(0, 1, reads(read("b", "d", stamp("b", 3), stamp("c", 4))), nil),
			prepare(0, 2, reads(read("d", "f")), nil),
			prepare(0, 3, reads(read("f", "g", stamp("f", 5), stamp("ff", 6))), nil),
		}},
	} {
		checkAsks(t, made(s, x.reads, x.writes), x.want...)
	}
}

// P22.1: what was seen keeps its order and its times, whatever they are; what wasn't in the span is in none of its parts.
func TestSeen(t *testing.T) {
	r := read("a", "c", stamp("bb", -1), stamp("a", math.MaxInt), stamp("c", 4), stamp("b", 0), stamp("", 5), stamp("b", 0), stamp("aa", 2), stamp("z", 1))
	checkAsks(t, made(splitBy(t, "b"), reads(r), nil),
		prepare(0, 0, reads(read("a", "b", stamp("a", math.MaxInt), stamp("aa", 2))), nil),
		prepare(0, 1, reads(read("b", "c", stamp("bb", -1), stamp("b", 0), stamp("b", 0))), nil))
}

// P22.1: writes are as they were handed in: those that are Dead, those without a value, and those of one key.
func TestWrites(t *testing.T) {
	w := []api.Write{{Key: "a", Dead: true}, {Key: "", Value: "x"}, {Key: "a", Value: "y"}, {Key: "c"}, {Key: "a", Value: "z", Dead: true}}
	checkAsks(t, made(splitBy(t, "b"), nil, w),
		prepare(0, 0, nil, []api.Write{w[0], w[1], w[2], w[4]}),
		prepare(0, 1, nil, []api.Write{w[3]}))
}

// P22.1: whoever reads and writes nothing has the shard 0, with nothing; spans without keys, and Replies, are nothing.
func TestNothing(t *testing.T) {
	for _, s := range []*split.Split{splitBy(t), splitBy(t, "b"), splitBy(t, "b", "d", "f"), nil, {}} {
		for _, r := range [][]api.Read{nil, {}, reads(read("a", "a")), reads(read("z", "c", stamp("d", 3)), read("c", ""))} {
			e := api.Effect{Reads: r, Writes: []api.Write{}, Replies: []api.Reply{{N: 7}}}
			d := deal.New(me, 4, 5, 60, e, s)
			checkAsks(t, d, prepare(0, 0, nil, nil))
			checkOpen(t, d)
			d.Told(0, api.Prepare, ok(0))
			checkAsks(t, d, commit(0, 1))
			d.Told(0, api.Commit, ok(1))
			checkAsks(t, d, resolve(0, 0, 1))
			d.Told(0, api.Resolve, ok(0))
			checkOver(t, d, true)
		}
	}
}

// P22.1: a span without keys beside others makes no shard one that is read.
func TestSpansWithoutKeys(t *testing.T) {
	d := made(splitBy(t, "b"), reads(read("a", "a"), read("c", "d"), read("a", "")), nil)
	checkAsks(t, d, prepare(1, 1, reads(read("c", "d")), nil))
}

// P22.1: of a nil split no span has parts (14), and each key is the shard 0's; a zero one has one shard.
func TestOddSplits(t *testing.T) {
	r, w := reads(read("a", "c", stamp("b", 3))), writes("z", "a")
	checkAsks(t, made(nil, r, w), prepare(0, 0, nil, w))
	checkAsks(t, made(nil, r, nil), prepare(0, 0, nil, nil))
	checkAsks(t, made(&split.Split{}, r, w), prepare(0, 0, r, w))
}

// P22.1: the numbers of a deal are told as they were handed in, where the chapter names them, whatever they are.
func TestNumbers(t *testing.T) {
	for _, n := range []int{math.MinInt, -1, 0, 1, 1 << 50, math.MaxInt - 3} {
		who := api.Tid{Node: n, Boot: n + 1, Seq: n + 2}
		d := deal.New(who, n+1, n+2, n+3, api.Effect{Writes: writes("a")}, splitBy(t))
		checkAsks(t, d, deal.Ask{Command: api.Command{Kind: api.Prepare, Txn: who, Until: n + 3, Writes: writes("a")}})
		d.Told(0, api.Prepare, ok(0))
		checkAsks(t, d, deal.Ask{Command: api.Command{Kind: api.Commit, Txn: who, Min: 1, Until: n + 3, Version: n + 2, Call: n + 1}})
		d.Told(0, api.Commit, ok(5))
		checkAsks(t, d, deal.Ask{Command: api.Command{Kind: api.Resolve, Txn: who, Ts: 5}})
		d = deal.Clear(who, n, n+1)
		checkAsks(t, d, deal.Ask{Shard: n, Command: api.Command{Kind: api.Abort, Txn: who, Home: n}})
		d.Told(n, api.Abort, ok(0))
		checkAsks(t, d, deal.Ask{Shard: n + 1, Command: api.Command{Kind: api.Resolve, Txn: who, Home: n}})
	}
}

// P22.1, P22.2: a clearing asks the home, and then resolves its shard alone, which may be the home or not.
func TestClearing(t *testing.T) {
	for _, shard := range []int{0, 1, 2, 3} {
		for _, x := range []struct {
			told api.Result
			ts   int
			why  api.Errno
		}{
			{ok(0), 0, api.ErrOver},
			{api.Result{}, 0, api.ErrOver},
			{api.Result{Ts: 7}, 0, api.ErrOver},
			{api.Result{Err: api.ErrOver, Ts: 7}, 7, api.OK},
			{api.Result{Err: api.ErrOver, Ts: 1 << 50}, 1 << 50, api.OK},
		} {
			d := deal.Clear(me, 2, shard)
			checkAsks(t, d, abort(2))
			checkOpen(t, d)
			d.Told(2, api.Abort, x.told)
			checkVerdict(t, d, x.ts, x.why)
			checkAsks(t, d, resolve(2, shard, x.ts))
			checkOver(t, d, false)
			d.Told(shard, api.Resolve, ok(0))
			checkVerdict(t, d, x.ts, x.why)
			checkAsks(t, d)
			checkOver(t, d, true)
		}
	}
}
