package shard_test

import (
	"math/rand"
	"slices"
	"strconv"
	"testing"

	"lintel/api"
	"lintel/shard"
)

// universe answers all keys that the tests by chance know, rising.
func universe() []string {
	list := []string{""}
	for _, a := range []string{"\x00", "a", "\xff"} {
		list = append(list, a)
		for _, b := range []string{"\x00", "a", "\xff"} {
			list = append(list, a+b)
		}
	}
	return list
}

// sketch is a shard of the simplest kind: lists, and what is now of each key; whatever spans have is looked up key by key.
type sketch struct {
	keys    []string
	now     map[string][]api.Version
	locks   []api.Lock
	records []api.Record
	over    []api.Tid
	high    int
}

func newSketch() *sketch { return &sketch{keys: universe(), now: map[string][]api.Version{}} }

// within answers the keys of a span.
func (k *sketch) within(p api.Span) []string {
	var list []string
	for _, key := range k.keys {
		if key >= p.From && key < p.To {
			list = append(list, key)
		}
	}
	return list
}

func (k *sketch) holds(l api.Lock, key string) bool {
	for _, w := range l.Writes {
		if w.Key == key {
			return true
		}
	}
	return false
}

func (k *sketch) covers(l api.Lock, key string) bool {
	for _, p := range l.Spans {
		if slices.Contains(k.within(p), key) {
			return true
		}
	}
	return false
}

func (k *sketch) span(p api.Span) []api.Hit {
	var list []api.Hit
	for _, key := range k.within(p) {
		if n := len(k.now[key]); n > 0 && !k.now[key][n-1].Dead {
			list = append(list, api.Hit{Key: key, Ts: k.now[key][n-1].Ts, Value: k.now[key][n-1].Value})
		}
	}
	return list
}

func (k *sketch) record(t api.Tid) (int, bool) {
	for _, r := range k.records {
		if r.Txn == t {
			return r.Ts, true
		}
	}
	return 0, false
}

func (k *sketch) save() api.Range {
	x := api.Range{Locks: k.locks, Records: k.records, Over: k.over, High: k.high}
	for _, key := range k.keys {
		if len(k.now[key]) > 0 {
			x.Rows = append(x.Rows, api.Row{Key: key, List: k.now[key]})
		}
	}
	return x
}

func (k *sketch) do(at int, c api.Command) api.Result {
	ts, known := k.record(c.Txn)
	isOver := slices.Contains(k.over, c.Txn)
	switch c.Kind {
	case api.Prepare:
		if isOver {
			return api.Result{Err: api.ErrOver}
		}
		return k.prepare(c)
	case api.Commit:
		if known && ts == 0 {
			return api.Result{Err: api.ErrOver}
		}
		if known {
			return api.Result{Ts: ts}
		}
		ts = slices.Max([]int{1, at, c.Min})
		if ts > c.Until {
			k.records = append(k.records, api.Record{Txn: c.Txn})
			return api.Result{Err: api.ErrLate, New: true}
		}
		k.records = append(k.records, api.Record{Txn: c.Txn, Ts: ts})
		return api.Result{Ts: ts, New: true}
	case api.Abort:
		if known && ts > 0 {
			return api.Result{Err: api.ErrOver, Ts: ts}
		}
		if !known {
			k.records = append(k.records, api.Record{Txn: c.Txn})
		}
		return api.Result{New: !known}
	case api.Resolve:
		if !isOver {
			k.resolve(c)
		}
		return api.Result{New: !isOver}
	}
	return api.Result{Err: api.ErrArg}
}

func (k *sketch) prepare(c api.Command) api.Result {
	for _, l := range k.locks {
		if l.Txn == c.Txn {
			return api.Result{Ts: k.high}
		}
	}
	mine := api.Lock{Txn: c.Txn, Home: c.Home, Until: c.Until, Writes: c.Writes}
	for _, r := range c.Reads {
		mine.Spans = append(mine.Spans, r.Span)
		for _, l := range k.locks {
			for _, key := range k.within(r.Span) {
				if k.holds(l, key) {
					return api.Result{Err: api.ErrBusy, Txn: l.Txn, Until: l.Until}
				}
			}
		}
		if !slices.Equal(stamps(k.span(r.Span)), r.Seen) {
			return api.Result{Err: api.ErrStale}
		}
	}
	for _, w := range c.Writes {
		for _, l := range k.locks {
			if k.holds(l, w.Key) || k.covers(l, w.Key) {
				return api.Result{Err: api.ErrBusy, Txn: l.Txn, Until: l.Until}
			}
		}
	}
	k.locks = append(k.locks, mine)
	return api.Result{Ts: k.high, New: true}
}

func (k *sketch) resolve(c api.Command) {
	k.over = append(k.over, c.Txn)
	var stay []api.Lock
	for _, l := range k.locks {
		if l.Txn != c.Txn {
			stay = append(stay, l)
			continue
		}
		for _, w := range l.Writes {
			n := len(k.now[w.Key])
			if c.Ts > 0 && (n == 0 || k.now[w.Key][n-1].Ts < c.Ts) {
				k.now[w.Key] = append(k.now[w.Key], api.Version{Ts: c.Ts, Value: w.Value, Dead: w.Dead})
			}
		}
	}
	k.locks = stay
	if c.Ts > k.high {
		k.high = c.Ts
	}
}

func stamps(hits []api.Hit) []api.Stamp {
	var list []api.Stamp
	for _, h := range hits {
		list = append(list, api.Stamp{Key: h.Key, Ts: h.Ts})
	}
	return list
}

// game is a shard, its sketch, and all that must stay as it was.
type game struct {
	t       *testing.T
	r       *rand.Rand
	s       *shard.Shard
	k       *sketch
	covered map[api.Tid][][]api.Hit // what each lock's spans had when it came
	records map[api.Tid]int
	seen    map[string]int
}

func (x *game) key() string { return x.k.keys[x.r.Intn(len(x.k.keys))] }

func (x *game) txn() api.Tid {
	return api.Tid{Node: x.r.Intn(2), Boot: x.r.Intn(2), Seq: x.r.Intn(12)}
}

// span answers a span, most of them small.
func (x *game) span() api.Span {
	p := api.Span{From: x.key(), To: x.key()}
	if x.r.Intn(2) == 0 {
		p.To = p.From + "\x00"
	}
	return p
}

// read answers a read, most of them of what there is.
func (x *game) read() api.Read {
	p := x.span()
	seen := stamps(x.k.span(p))
	switch n := len(seen); {
	case x.r.Intn(5) > 0:
	case n > 0 && x.r.Intn(2) == 0:
		seen[x.r.Intn(n)].Ts++
	case n > 1:
		seen[0], seen[n-1] = seen[n-1], seen[0]
	default:
		seen = append(seen, api.Stamp{Key: x.key(), Ts: x.r.Intn(9)})
	}
	return api.Read{Span: p, Seen: seen}
}

func (x *game) command(step int) api.Command {
	c := api.Command{
		Kind: 1 + x.r.Intn(4), Txn: x.txn(), By: x.txn(), Home: x.r.Intn(4), Min: x.r.Intn(20) + step - 10, Until: step + x.r.Intn(30),
		Ts: x.r.Intn(30) + step - 20, Version: x.r.Intn(3), Call: x.r.Intn(3),
	}
	if x.r.Intn(50) == 0 {
		c.Kind = x.r.Intn(20) - 1
	}
	if x.r.Intn(3) == 0 {
		c.Ts = 0
	}
	for range x.r.Intn(3) {
		c.Reads = append(c.Reads, x.read())
	}
	for range x.r.Intn(3) {
		c.Writes = append(c.Writes, api.Write{Key: x.key(), Value: strconv.Itoa(step), Dead: x.r.Intn(4) == 0})
	}
	return c
}

func (x *game) step(step int) {
	at, c := step+x.r.Intn(5)-2, x.command(step)
	want := x.k.do(at, c)
	checkDo(x.t, x.s, at, c, want)
	checkSave(x.t, x.s, x.k.save())
	checkLocks(x.t, x.s, x.k.locks...)
	p, who := x.span(), x.txn()
	checkSpan(x.t, x.s, p, x.k.span(p)...)
	ts, there := x.k.record(who)
	checkRecord(x.t, x.s, who, ts, there)
	if c.Kind == api.Prepare && want.New {
		x.covered[c.Txn] = nil
		for _, r := range c.Reads {
			x.covered[c.Txn] = append(x.covered[c.Txn], x.s.Span(r.Span))
		}
	}
	x.look()
	x.seen[strconv.Itoa(c.Kind)+" "+strconv.Itoa(int(want.Err))+" "+strconv.FormatBool(want.New)]++
}

// look looks at what must hold, whatever happens (P13.3).
func (x *game) look() {
	x.t.Helper()
	locks := x.s.Locks()
	for i, a := range locks {
		for j, b := range locks {
			for _, key := range x.k.keys {
				if i != j && x.k.holds(a, key) && (x.k.holds(b, key) || x.k.covers(b, key)) {
					x.t.Fatalf("the locks %+v and %+v meet in %q", a, b, key)
				}
			}
		}
		for n, p := range a.Spans {
			checkSpan(x.t, x.s, p, x.covered[a.Txn][n]...)
		}
	}
	for _, r := range x.s.Save().Records {
		if ts, had := x.records[r.Txn]; had && ts != r.Ts {
			x.t.Fatalf("the record of %v was %d, and is %d", r.Txn, ts, r.Ts)
		}
		x.records[r.Txn] = r.Ts
	}
	for who, ts := range x.records {
		checkRecord(x.t, x.s, who, ts, true)
	}
}

// P13.1 to P13.3: commands of all kinds, mixed, are answered as by the sketch, and no locks meet, what they cover stays, and records stay; now and then a shard is loaded from what it saved.
func TestAsTheSketch(t *testing.T) {
	seen := map[string]int{}
	for seed := range int64(60) {
		x := &game{t: t, r: rand.New(rand.NewSource(seed)), s: shard.New(), k: newSketch(), covered: map[api.Tid][][]api.Hit{}, records: map[api.Tid]int{}, seen: seen}
		for step := range 150 {
			x.step(step)
			if x.r.Intn(20) == 0 {
				x.s = loaded(t, x.s.Save())
			}
		}
	}
	for _, what := range []string{
		"1 0 true", "1 0 false", "1 130 false", "1 131 false", "1 132 false", "2 0 true", "2 0 false", "2 132 false", "2 133 true",
		"3 0 true", "3 0 false", "3 132 false", "4 0 true", "4 0 false", "0 1 false", "11 1 false",
	} {
		if seen[what] == 0 {
			t.Errorf("no command was answered so: kind, error, new: %s; but these: %v", what, seen)
		}
	}
}

// P13.1, P13.2: many transactions are found in good time.
func TestMany(t *testing.T) {
	const many = 30000
	s := shard.New()
	for i := range many {
		checkDo(t, s, 1, prepare(tid(i), nil, writes(strconv.Itoa(i%100))), isNew(i))
		checkDo(t, s, 1, commit(tid(i), i+1, many), isNew(i+1))
		checkDo(t, s, 1, resolve(tid(i), i+1), isNew(0))
	}
	s = loaded(t, s.Save())
	for i := range many {
		checkRecord(t, s, tid(i), i+1, true)
		checkDo(t, s, 1, abort(tid(i)), api.Result{Err: api.ErrOver, Ts: i + 1})
		checkDo(t, s, 1, prepare(tid(i), nil, nil), isOver)
	}
	checkDo(t, s, 1, prepare(tid(many), nil, nil), isNew(many))
}
