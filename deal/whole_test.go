package deal_test

import (
	"cmp"
	"maps"
	"slices"
	"strconv"
	"testing"

	"lintel/api"
	"lintel/deal"
	"lintel/shard"
	"lintel/split"
)

// A runner is a deal that somebody goes on with, until he stops.
type runner struct {
	txn  api.Tid
	deal *deal.Deal
}

func (x runner) over() bool { return x.deal.Over() }

// An answer is what a command was answered, on its way to whoever is told.
type answer struct {
	txn         api.Tid
	shard, kind int
	result      api.Result
}

// A transaction is what somebody began.
type transaction struct {
	home   int
	effect api.Effect
}

// A world is shards, deals about them, and what is under way between them.
type world struct {
	draw
	t        *testing.T
	split    *split.Split
	shards   []*shard.Shard
	now      int
	began    map[api.Tid]transaction
	runners  []runner
	commands []deal.Ask
	answers  []answer
	order    []api.Record // the records of those that are committed, as they were made
	verdicts map[api.Tid]api.Record
	seen     map[string]int
}

func newWorld(t *testing.T, seed int64, seen map[string]int) *world {
	w := &world{draw: newDraw(seed), t: t, began: map[api.Tid]transaction{}, verdicts: map[api.Tid]api.Record{}, seen: seen}
	w.split = splitBy(t, w.bounds()...)
	for range w.split.Size() {
		w.shards = append(w.shards, shard.New())
	}
	return w
}

// look answers a read of a span, as the shards have it now.
func (w *world) look(p api.Span) api.Read {
	r := api.Read{Span: p}
	for _, s := range w.shards {
		for _, h := range s.Span(p) {
			r.Seen = append(r.Seen, stamp(h.Key, h.Ts))
		}
	}
	return r
}

// begin begins a transaction that reads and writes by chance. What it writes tells whose it is.
func (w *world) begin() {
	var e api.Effect
	for range w.Intn(3) {
		e.Reads = append(e.Reads, w.look(w.span()))
	}
	who := api.Tid{Seq: len(w.began) + 1}
	keys := map[string]int{}
	for range w.Intn(4) {
		keys[w.key()] = 0
	}
	for _, key := range slices.Sorted(maps.Keys(keys)) {
		e.Writes = append(e.Writes, api.Write{Key: key, Value: strconv.Itoa(who.Seq), Dead: w.Intn(4) == 0})
	}
	d := deal.New(who, 1, 1, w.now+5+w.Intn(30), e, w.split)
	w.began[who] = transaction{d.Asks()[0].Command.Home, e}
	w.runners = append(w.runners, runner{who, d})
}

// clear begins a clearing of a lock, however young that is.
func (w *world) clear() {
	i := w.Intn(len(w.shards))
	if locks := w.shards[i].Locks(); len(locks) > 0 {
		l := locks[w.Intn(len(locks))]
		w.runners = append(w.runners, runner{l.Txn, deal.Clear(l.Txn, l.Home, i)})
	}
}

// do lets a shard do a command, by a clock that isn't just everybody's.
func (w *world) do(a deal.Ask) answer {
	c := a.Command
	r := w.shards[a.Shard].Do(max(0, w.now+w.Intn(7)-3), c)
	if c.Kind == api.Commit && r.Err == api.OK && r.New {
		w.order = append(w.order, api.Record{Txn: c.Txn, Ts: r.Ts})
	}
	w.seen[strconv.Itoa(c.Kind)+" "+strconv.Itoa(int(r.Err))]++
	return answer{c.Txn, a.Shard, c.Kind, r}
}

// tell tells a runner an answer, if that is about his transaction.
func (w *world) tell(x runner, a answer) {
	if x.txn != a.txn {
		return
	}
	x.deal.Told(a.shard, a.kind, a.result)
	w.hear(x)
}

// hear looks whether what a deal has as its verdict is what another one about its transaction had: its time, or none.
func (w *world) hear(x runner) {
	ts, why, known := x.deal.Verdict()
	if !known {
		return
	}
	if had, there := w.verdicts[x.txn]; there && had.Ts != ts {
		w.t.Fatalf("the verdict of %v is %d (%d), and was %d", x.txn, ts, why, had.Ts)
	}
	w.verdicts[x.txn] = api.Record{Txn: x.txn, Ts: ts}
}

// anyOf answers the place of one of a list; false: there is none.
func anyOf[T any](w *world, list []T) (int, bool) {
	if len(list) == 0 {
		return 0, false
	}
	return w.Intn(len(list)), true
}

func without[T any](list []T, i int) []T { return slices.Delete(slices.Clone(list), i, i+1) }

// step does one of the things that may happen at any moment.
func (w *world) step() {
	switch n := w.Intn(100); {
	case n < 8: // a few at a time: too many would all be busy
		if w.runners = slices.DeleteFunc(w.runners, runner.over); len(w.runners) < 4 {
			w.begin()
		}
	case n < 9:
		w.clear()
	case n < 25: // somebody asks, perhaps again
		if i, there := anyOf(w, w.runners); there {
			w.commands = append(w.commands, w.runners[i].deal.Asks()...)
		}
	case n < 58: // a command comes to its shard, and perhaps again later
		if i, there := anyOf(w, w.commands); there {
			w.answers = append(w.answers, w.do(w.commands[i]))
			if w.Intn(3) > 0 {
				w.commands = without(w.commands, i)
			}
		}
	case n < 90: // an answer comes to some of those whom it is for
		if i, there := anyOf(w, w.answers); there {
			for _, x := range w.runners {
				if w.Intn(4) > 0 {
					w.tell(x, w.answers[i])
				}
			}
			if w.Intn(3) > 0 {
				w.answers = without(w.answers, i)
			}
		}
	case n < 92:
		if i, there := anyOf(w, w.commands); there {
			w.commands = without(w.commands, i)
		}
	case n < 94:
		if i, there := anyOf(w, w.answers); there {
			w.answers = without(w.answers, i)
		}
	case n < 95:
		if i, there := anyOf(w, w.runners); there {
			w.runners = without(w.runners, i)
		}
	case n < 98:
		w.now += w.Intn(4)
	default:
		if i, there := anyOf(w, w.runners); there {
			w.runners[i].deal.Late(w.now)
			w.hear(w.runners[i])
		}
	}
}

// finish lets all stop, what is under way come or be lost, and then clears what was left.
func (w *world) finish() {
	w.runners = nil
	for _, i := range w.Perm(len(w.commands)) {
		if w.Intn(2) == 0 {
			w.do(w.commands[i])
		}
	}
	for i, s := range w.shards {
		for _, l := range s.Locks() {
			x := runner{l.Txn, deal.Clear(l.Txn, l.Home, i)}
			for range 2 {
				for _, a := range x.deal.Asks() {
					w.tell(x, w.do(a))
				}
			}
			if !x.deal.Over() {
				w.t.Fatalf("the clearing of %+v isn't over", l)
			}
		}
		if locks := s.Locks(); len(locks) > 0 {
			w.t.Fatalf("the shard %d has locks still: %+v", i, locks)
		}
	}
}

// A thing is a version, and whose key that is.
type thing struct {
	key     string
	version api.Version
}

// written answers all versions that there are, by the transaction that wrote them.
func (w *world) written() map[string][]thing {
	all := map[string][]thing{}
	for i, s := range w.shards {
		for _, r := range s.Save().Rows {
			for _, v := range r.List {
				if w.split.Find(r.Key) != i {
					w.t.Fatalf("the shard %d has %q", i, r.Key)
				}
				all[v.Value] = append(all[v.Value], thing{r.Key, v})
			}
		}
	}
	return all
}

// checkWhole looks whether each transaction has written all at the time of its record, or nothing.
func (w *world) checkWhole() {
	all := w.written()
	for who, x := range w.began {
		ts, _ := w.shards[x.home].Record(who)
		var want []thing
		for _, y := range x.effect.Writes {
			if ts > 0 {
				want = append(want, thing{y.Key, api.Version{Ts: ts, Value: y.Value, Dead: y.Dead}})
			}
		}
		got := all[strconv.Itoa(who.Seq)]
		slices.SortFunc(got, func(a, b thing) int { return cmp.Compare(a.key, b.key) })
		if !slices.Equal(got, want) {
			w.t.Fatalf("%v (record %d) has written %+v, not %+v", who, ts, got, want)
		}
		if had, there := w.verdicts[who]; there && had.Ts != ts {
			w.t.Fatalf("the verdict of %v was %d, but its record is %d", who, had.Ts, ts)
		}
	}
}

// checkOrder looks whether those that are committed, done one behind the other by a store of one map, see what they saw, and leave what there is.
func (w *world) checkOrder() {
	now := map[string]api.Hit{}
	hits := func(p api.Span) []api.Hit {
		var list []api.Hit
		for _, key := range w.keys {
			if h, there := now[key]; there && p.From <= key && key < p.To {
				list = append(list, h)
			}
		}
		return list
	}
	for _, o := range w.order {
		e := w.began[o.Txn].effect
		for _, r := range e.Reads {
			same := slices.EqualFunc(hits(r.Span), r.Seen, func(h api.Hit, s api.Stamp) bool { return stamp(h.Key, h.Ts) == s })
			if !same {
				w.t.Fatalf("%v saw %+v, where there was %+v", o.Txn, r, hits(r.Span))
			}
		}
		for _, x := range e.Writes {
			delete(now, x.Key)
			if !x.Dead {
				now[x.Key] = api.Hit{Key: x.Key, Ts: o.Ts, Value: x.Value}
			}
		}
	}
	p := span("", "\xff\xff")
	var got []api.Hit
	for _, s := range w.shards {
		got = append(got, s.Span(p)...)
	}
	if !slices.Equal(got, hits(p)) {
		w.t.Fatalf("there is %+v, not %+v", got, hits(p))
	}
}

// P22.4: whatever comes late, twice, or never, and whoever stops: transactions are whole, and as if done one behind the other.
func TestWhole(t *testing.T) {
	seen := map[string]int{}
	committed, across := 0, 0
	for seed := range int64(1000) {
		w := newWorld(t, seed, seen)
		for range 1500 {
			w.step()
		}
		w.finish()
		w.checkWhole()
		w.checkOrder()
		committed += len(w.order)
		for _, o := range w.order {
			e := w.began[o.Txn].effect
			e.Reads = nil
			if len(deal.New(o.Txn, 0, 0, 0, e, w.split).Asks()) > 1 {
				across++
			}
		}
	}
	for _, what := range []string{"1 0", "1 130", "1 131", "1 132", "2 0", "2 132", "2 133", "3 0", "3 132", "4 0"} {
		if seen[what] < 100 {
			t.Errorf("hardly a command was answered so: kind, error: %s; but these: %v", what, seen)
		}
	}
	if committed < 5000 || across < 500 {
		t.Errorf("only %d transactions were committed, %d of them in several shards", committed, across)
	}
}

// When nothing goes wrong, what is asked for is over behind three rounds, with what was asked for done.
func TestThreeRounds(t *testing.T) {
	seen := map[string]int{}
	for seed := range int64(300) {
		w := newWorld(t, seed, seen)
		for range 10 {
			w.now += 5
			w.begin()
			x := w.runners[len(w.runners)-1]
			for range 3 {
				checkOver(t, x.deal, false)
				for _, a := range x.deal.Asks() {
					w.tell(x, w.do(a))
				}
			}
			checkOver(t, x.deal, true)
			if ts, why, known := x.deal.Verdict(); ts == 0 || why != api.OK || !known {
				t.Fatalf("Verdict: %d, %d, %v", ts, why, known)
			}
		}
		w.checkWhole()
		w.checkOrder()
	}
}
