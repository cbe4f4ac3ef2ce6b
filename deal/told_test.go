package deal_test

import (
	"math"
	"testing"

	"lintel/api"
	"lintel/deal"
)

// errors are some that a shard may answer, and some that none does.
var errors = []api.Errno{api.ErrStale, api.ErrBusy, api.ErrOver, api.ErrLate, api.ErrNil, api.ErrArg, -1, 999}

// three answers a deal that writes in the shards 1, 2 and 3.
func three(t *testing.T) *deal.Deal {
	t.Helper()
	d := made(splitBy(t, "b", "d", "f"), nil, writes("b", "d", "f"))
	checkAsks(t, d, prepares(1, 2, 3)...)
	return d
}

// prepares and resolves answer what the deal of three asks of some of its shards.
func prepares(shards ...int) []deal.Ask {
	var list []deal.Ask
	for _, i := range shards {
		list = append(list, prepare(1, i, nil, writes(string(rune('b'+2*(i-1))))))
	}
	return list
}

func resolves(ts int, shards ...int) []deal.Ask {
	var list []deal.Ask
	for _, i := range shards {
		list = append(list, resolve(1, i, ts))
	}
	return list
}

// committing answers the deal of three once it is committing, with Min 9.
func committing(t *testing.T) *deal.Deal {
	t.Helper()
	d := three(t)
	d.Told(2, api.Prepare, ok(5))
	checkAsks(t, d, prepares(1, 3)...)
	d.Told(3, api.Prepare, api.Result{Ts: 8})
	checkAsks(t, d, prepares(1)...)
	d.Told(1, api.Prepare, ok(0))
	checkAsks(t, d, commit(1, 9))
	checkOpen(t, d)
	return d
}

// ending answers the deal of three once it is committed, at 12.
func ending(t *testing.T) *deal.Deal {
	t.Helper()
	d := committing(t)
	d.Told(1, api.Commit, ok(12))
	checkVerdict(t, d, 12, api.OK)
	checkAsks(t, d, resolves(12, 1, 2, 3)...)
	checkOver(t, d, false)
	return d
}

// finished answers the deal of three once it is over.
func finished(t *testing.T) *deal.Deal {
	t.Helper()
	d := ending(t)
	d.Told(3, api.Resolve, ok(0))
	checkAsks(t, d, resolves(12, 1, 2)...)
	d.Told(1, api.Resolve, api.Result{})
	checkAsks(t, d, resolves(12, 2)...)
	checkOver(t, d, false)
	d.Told(2, api.Resolve, ok(0))
	checkAsks(t, d)
	checkOver(t, d, true)
	checkVerdict(t, d, 12, api.OK)
	return d
}

// P22.2, P22.3: through all phases, and answers in any order.
func TestThroughAllPhases(t *testing.T) { finished(t) }

// P22.2: the error of a shard's Prepare is the verdict, whoever answered ahead of it, and all shards are resolved: those too that haven't answered, or have.
func TestPrepareFails(t *testing.T) {
	for _, why := range errors {
		for ahead := range 3 {
			for _, ts := range []int{0, 7, 1 << 50} {
				d := three(t)
				for i := range ahead {
					d.Told(1+i, api.Prepare, ok(4))
				}
				d.Told(1+ahead, api.Prepare, api.Result{Err: why, Ts: ts, Txn: api.Tid{Seq: 9}, Until: 70})
				checkVerdict(t, d, 0, why)
				checkAsks(t, d, resolves(0, 1, 2, 3)...)
				for i, shard := range []int{2, 3, 1} {
					checkOver(t, d, false)
					d.Told(shard, api.Resolve, ok(0))
					checkAsks(t, d, resolves(0, [][]int{{1, 3}, {1}, nil}[i]...)...)
				}
				checkOver(t, d, true)
				checkVerdict(t, d, 0, why)
			}
		}
	}
}

// P22.2: Min is one more than the greatest time of all, wherever it was answered; an error's time is none of them.
func TestMin(t *testing.T) {
	for _, x := range []struct {
		times [3]int
		least int
	}{
		{[3]int{0, 0, 0}, 1}, {[3]int{1, 0, 0}, 2}, {[3]int{9, 3, 8}, 10}, {[3]int{3, 9, 8}, 10},
		{[3]int{3, 8, 9}, 10}, {[3]int{9, 9, 9}, 10}, {[3]int{0, 1 << 50, 1}, 1<<50 + 1},
	} {
		d := three(t)
		for i, ts := range x.times {
			d.Told(1+i, api.Prepare, ok(ts))
		}
		checkAsks(t, d, commit(1, x.least))
	}
}

// P22.2: a Commit's answer is the verdict: its time, the least and the greatest too, or its error.
func TestCommitAnswered(t *testing.T) {
	for _, ts := range []int{0, 1, 9, 1 << 50} {
		d := committing(t)
		d.Told(1, api.Commit, api.Result{Ts: ts})
		checkVerdict(t, d, ts, api.OK)
		checkAsks(t, d, resolves(ts, 1, 2, 3)...)
		checkOver(t, d, false)
	}
	for _, why := range errors {
		d := committing(t)
		d.Told(1, api.Commit, api.Result{Err: why, Ts: 10, New: true})
		checkVerdict(t, d, 0, why)
		checkAsks(t, d, resolves(0, 1, 2, 3)...)
		checkOver(t, d, false)
	}
}

// P22.2: other errors of an Abort are let be: the clearing goes on to ask.
func TestAbortRefused(t *testing.T) {
	for _, why := range errors {
		if why == api.ErrOver {
			continue
		}
		d := deal.Clear(me, 2, 1)
		d.Told(2, api.Abort, api.Result{Err: why, Ts: 7})
		checkAsks(t, d, abort(2))
		checkOpen(t, d)
		d.Told(2, api.Abort, ok(0))
		checkVerdict(t, d, 0, api.ErrOver)
	}
}

// P22.2: that somebody else's transaction was committed at 0 is none, but it is what was answered.
func TestAbortOverAtNoTime(t *testing.T) {
	d := deal.Clear(me, 2, 1)
	d.Told(2, api.Abort, no(api.ErrOver))
	checkVerdict(t, d, 0, api.OK)
	checkAsks(t, d, resolve(2, 1, 0))
}

// P22.2: a Resolve is answered by an error too.
func TestResolveAnswered(t *testing.T) {
	for _, why := range errors {
		d := ending(t)
		for _, shard := range []int{1, 2, 3} {
			checkOver(t, d, false)
			d.Told(shard, api.Resolve, api.Result{Err: why, Ts: 1 << 50})
		}
		checkAsks(t, d)
		checkOver(t, d, true)
		checkVerdict(t, d, 12, api.OK)
	}
}

// inAllPhases answers each kind of deal in each of its phases, made anew.
func inAllPhases(t *testing.T) []*deal.Deal {
	t.Helper()
	half := three(t)
	half.Told(2, api.Prepare, ok(3))
	late := three(t)
	late.Late(61)
	last := ending(t)
	last.Told(1, api.Resolve, ok(0))
	cleared := deal.Clear(me, 2, 1)
	cleared.Told(2, api.Abort, api.Result{Err: api.ErrOver, Ts: 6})
	gone := deal.Clear(me, 1, 1)
	gone.Told(1, api.Abort, ok(0))
	gone.Told(1, api.Resolve, ok(0))
	return []*deal.Deal{
		three(t), half, late, committing(t), ending(t), last, finished(t),
		deal.Clear(me, 2, 1), deal.Clear(me, 1, 1), cleared, gone, nil, {},
	}
}

// A state is all that a deal tells.
type state struct {
	asks  []deal.Ask
	ts    int
	why   api.Errno
	known bool
	over  bool
}

func stateOf(d *deal.Deal) state {
	x := state{asks: plain(d.Asks()), over: d.Over()}
	x.ts, x.why, x.known = d.Verdict()
	return x
}

func checkState(t *testing.T, d *deal.Deal, want state) {
	t.Helper()
	checkAsks(t, d, want.asks...)
	if ts, why, known := d.Verdict(); ts != want.ts || why != want.why || known != want.known {
		t.Fatalf("Verdict: %d, %d, %v, not %d, %d, %v", ts, why, known, want.ts, want.why, want.known)
	}
	checkOver(t, d, want.over)
}

// isAsked tells whether a deal asks for that now.
func isAsked(d *deal.Deal, shard, kind int) bool {
	for _, a := range d.Asks() {
		if a.Shard == shard && a.Command.Kind == kind {
			return true
		}
	}
	return false
}

// P22.2: in every phase what isn't asked for is let be: other kinds, other shards, those that have answered; so is all at a time that may not be.
func TestLetBe(t *testing.T) {
	shards := []int{math.MinInt, -1, 0, 1, 2, 3, 4, math.MaxInt}
	kinds := []int{math.MinInt, -1, 0, api.Prepare, api.Commit, api.Abort, api.Resolve, 5, api.Grant, api.Go, api.Mark, math.MaxInt}
	for i := range inAllPhases(t) {
		d := inAllPhases(t)[i]
		want := stateOf(d)
		for _, shard := range shards {
			for _, kind := range kinds {
				for _, why := range append(errors, api.OK) {
					for _, ts := range []int{math.MinInt, -1, 1<<50 + 1, math.MaxInt} {
						d.Told(shard, kind, api.Result{Err: why, Ts: ts})
					}
					if !isAsked(d, shard, kind) {
						d.Told(shard, kind, api.Result{Err: why, Ts: 3, New: true})
					}
				}
			}
		}
		checkState(t, d, want)
	}
}

// P22.2: what is told twice counts once, with what was told first.
func TestTwice(t *testing.T) {
	d := three(t)
	d.Told(1, api.Prepare, ok(3))
	d.Told(1, api.Prepare, ok(30))
	d.Told(1, api.Prepare, no(api.ErrBusy))
	checkAsks(t, d, prepares(2, 3)...)
	checkOpen(t, d)
	d.Told(2, api.Prepare, ok(4))
	d.Told(3, api.Prepare, ok(5))
	d.Told(3, api.Prepare, no(api.ErrOver))
	checkAsks(t, d, commit(1, 6))
	d.Told(1, api.Commit, ok(8))
	d.Told(1, api.Commit, ok(9))
	d.Told(1, api.Commit, no(api.ErrLate))
	checkVerdict(t, d, 8, api.OK)
	d.Told(2, api.Resolve, ok(0))
	d.Told(2, api.Resolve, ok(0))
	checkAsks(t, d, resolves(8, 1, 3)...)
	checkOver(t, d, false)
}

// P22.2: Late ends a deal that is preparing, once it is behind its Until, and no other one.
func TestLate(t *testing.T) {
	for _, now := range []int{math.MinInt, -1, 0, 59, 60} {
		for i := range inAllPhases(t) {
			d := inAllPhases(t)[i]
			want := stateOf(d)
			d.Late(now)
			checkState(t, d, want)
		}
	}
	for _, now := range []int{61, 100, math.MaxInt} {
		for i := range inAllPhases(t) {
			d := inAllPhases(t)[i]
			want := stateOf(d)
			if i < 2 { // preparing
				want = state{asks: resolves(0, 1, 2, 3), why: api.ErrLate, known: true}
			}
			d.Late(now)
			checkState(t, d, want)
		}
	}
}

// P22.2: an Until may be any number.
func TestLateAtOddTimes(t *testing.T) {
	for _, until := range []int{math.MinInt, -5, 0, 1 << 50, math.MaxInt} {
		d := deal.New(me, 4, 5, until, api.Effect{}, nil)
		d.Late(until)
		checkOpen(t, d)
		if until < math.MaxInt {
			d.Late(until + 1)
			checkVerdict(t, d, 0, api.ErrLate)
		}
	}
}

// P22.5: of a nil deal: nothing, open, over; so of one that neither New nor Clear made.
func TestNil(t *testing.T) {
	for _, d := range []*deal.Deal{nil, {}} {
		for _, kind := range []int{0, api.Prepare, api.Commit, api.Abort, api.Resolve} {
			d.Told(0, kind, ok(3))
			d.Told(0, kind, no(api.ErrOver))
		}
		d.Late(math.MaxInt)
		checkState(t, d, state{over: true})
	}
}
