package ballot_test

import (
	"fmt"
	"math"
	"reflect"
	"slices"
	"testing"

	"lintel/api"
	"lintel/ballot"
)

const (
	follower  = 0
	candidate = 1
	leader    = 2
	mostSent  = 1 << 40
	mostKept  = 1 << 41
)

func made(t *testing.T, id, size int) *ballot.Ballot {
	t.Helper()
	b, err := ballot.New(id, size)
	if b == nil || err != api.OK {
		t.Fatalf("New(%d, %d): %v, %d, not a ballot, OK", id, size, b, err)
	}
	return b
}

func loaded(t *testing.T, id, size int, list ...api.Delta) *ballot.Ballot {
	t.Helper()
	b, err := ballot.Load(id, size, list)
	if b == nil || err != api.OK {
		t.Fatalf("Load(%d, %d, %v): %v, %d, not a ballot, OK", id, size, list, b, err)
	}
	return b
}

// led answers a ballot of the node 0 that leads by the votes of all others, of the term behind the delta's.
func led(t *testing.T, size int, list ...api.Delta) *ballot.Ballot {
	t.Helper()
	b := loaded(t, 0, size, list...)
	b.Timeout()
	for from := 1; from < size; from++ {
		b.Take(api.Msg{Kind: api.Vote, From: from, Term: b.Stand().Term, Good: true})
	}
	if s := b.Stand(); s.Role != leader || s.Lead != 0 {
		t.Fatalf("it doesn't lead: %+v", s)
	}
	b.Delta()
	return b
}

// entries answers entries of these terms, each unlike all others.
func entries(terms ...int) []api.Entry {
	var list []api.Entry
	for i, term := range terms {
		n := i + 1
		list = append(list, api.Entry{Term: term, At: 10 * n, Born: 100 * n, Text: fmt.Sprintf("%d of %d", n, term)})
	}
	return list
}

// whole is a delta of a ballot with that base, and entries of these terms behind it.
func whole(term, base, baseTerm int, terms ...int) api.Delta {
	return api.Delta{Term: term, Vote: -1, Whole: true, Base: base, BaseTerm: baseTerm, Snap: fmt.Sprintf("up to %d", base), List: entries(terms...)}
}

// plain answers messages with nil for each empty list, as these are one.
func plain(list []api.Msg) []api.Msg {
	var out []api.Msg
	for _, m := range list {
		if len(m.List) == 0 {
			m.List = nil
		}
		out = append(out, m)
	}
	return out
}

func checkMsgs(t *testing.T, got []api.Msg, want ...api.Msg) {
	t.Helper()
	if !reflect.DeepEqual(plain(got), plain(want)) {
		t.Fatalf("messages:\n%+v, not\n%+v", got, want)
	}
}

func checkState(t *testing.T, b *ballot.Ballot, want ballot.State) {
	t.Helper()
	if got := b.Stand(); got != want {
		t.Fatalf("Stand: %+v, not %+v", got, want)
	}
}

// checkLog looks at all entries behind a base, and at the numbers beside theirs.
func checkLog(t *testing.T, b *ballot.Ballot, base int, want ...api.Entry) {
	t.Helper()
	if s := b.Stand(); s.Base != base || s.Last != base+len(want) {
		t.Fatalf("Stand: %+v, where the base is %d, the last %d", s, base, base+len(want))
	}
	for k, e := range want {
		if got, ok := b.Entry(base + 1 + k); got != e || !ok {
			t.Fatalf("Entry(%d): %v, %v, not %v, true", base+1+k, got, ok, e)
		}
	}
	last := base + len(want)
	for _, i := range []int{math.MinInt, -1, 0, base - 1, base, last + 1, last + 2, mostKept + 9, math.MaxInt} {
		if i > base && i <= last {
			continue
		}
		if got, ok := b.Entry(i); got != (api.Entry{}) || ok {
			t.Fatalf("Entry(%d): %v, %v, where there is none", i, got, ok)
		}
	}
}

func checkDelta(t *testing.T, b *ballot.Ballot, want api.Delta) {
	t.Helper()
	got, ok := b.Delta()
	if len(got.List) == 0 {
		got.List = nil
	}
	if !reflect.DeepEqual(got, want) || !ok {
		t.Fatalf("Delta:\n%+v, %v, not\n%+v, true", got, ok, want)
	}
	checkNoDelta(t, b)
}

func checkNoDelta(t *testing.T, b *ballot.Ballot) {
	t.Helper()
	if got, ok := b.Delta(); !reflect.DeepEqual(got, api.Delta{}) || ok {
		t.Fatalf("Delta: %+v, %v, not an empty one, false", got, ok)
	}
}

// P9.1: the chapter's example, with all that its messages hold.
func TestExample(t *testing.T) {
	b := made(t, 0, 3)
	checkMsgs(t, b.Timeout(), api.Msg{Kind: api.Ask, To: 1, Term: 1}, api.Msg{Kind: api.Ask, To: 2, Term: 1})
	checkState(t, b, ballot.State{Term: 1, Vote: 0, Role: candidate, Lead: -1})
	one := []api.Entry{{Term: 1}}
	checkMsgs(t, b.Take(api.Msg{Kind: api.Vote, From: 1, Term: 1, Good: true}),
		api.Msg{Kind: api.Feed, To: 1, Term: 1, List: one}, api.Msg{Kind: api.Feed, To: 2, Term: 1, List: one})
	checkState(t, b, ballot.State{Term: 1, Role: leader, Last: 1})
	checkMsgs(t, b.Take(api.Msg{Kind: api.Fed, From: 1, Term: 1, Good: true, Index: 1}),
		api.Msg{Kind: api.Feed, To: 1, Term: 1, Index: 1, Prev: 1, Commit: 1},
		api.Msg{Kind: api.Feed, To: 2, Term: 1, Commit: 1, List: one})
	checkState(t, b, ballot.State{Term: 1, Role: leader, Last: 1, Commit: 1})
	checkLog(t, b, 0, one...)
}

// P9.1: a new ballot has nothing; numbers that may not be have none.
func TestNew(t *testing.T) {
	for size := 1; size <= api.MaxNodes; size++ {
		for id := range size {
			b := made(t, id, size)
			checkState(t, b, ballot.State{Vote: -1, Lead: -1})
			checkLog(t, b, 0)
			checkNoDelta(t, b)
			if b.Snap() != "" {
				t.Fatalf("Snap: %q", b.Snap())
			}
		}
	}
	wrong := [][2]int{
		{0, 0}, {0, -1}, {-1, 0}, {-1, 3}, {3, 3}, {1, 1}, {5, 5}, {0, api.MaxNodes + 1}, {5, 6},
		{math.MinInt, 3}, {math.MaxInt, 3}, {0, math.MinInt}, {0, math.MaxInt}, {1 << 32, 3}, {0, 1<<32 + 3},
		{math.MinInt, math.MinInt}, {math.MaxInt, math.MaxInt},
	}
	for _, x := range wrong {
		if b, err := ballot.New(x[0], x[1]); b != nil || err != api.ErrArg {
			t.Fatalf("New(%d, %d): %v, %d, not nil, ErrArg", x[0], x[1], b, err)
		}
	}
}

// P9.1: Timeout asks each other node, rising, and begins one term more each time.
func TestTimeoutAsksAll(t *testing.T) {
	for size := 2; size <= api.MaxNodes; size++ {
		for id := range size {
			b := loaded(t, id, size, whole(6, 4, 3, 5, 6))
			for term := 7; term < 10; term++ {
				var want []api.Msg
				for to := range size {
					if to != id {
						want = append(want, api.Msg{Kind: api.Ask, From: id, To: to, Term: term, Index: 6, Prev: 6})
					}
				}
				checkMsgs(t, b.Timeout(), want...)
				checkState(t, b, ballot.State{Term: term, Vote: id, Role: candidate, Lead: -1, Base: 4, Last: 6, Commit: 4})
			}
			checkLog(t, b, 4, entries(5, 6)...)
		}
	}
}

// P9.1: where no entry is behind the base, the base is the last.
func TestTimeoutBehindABase(t *testing.T) {
	b := loaded(t, 1, 2, whole(6, 4, 3))
	checkMsgs(t, b.Timeout(), api.Msg{Kind: api.Ask, From: 1, To: 0, Term: 7, Index: 4, Prev: 3})
}

// P9.1: a follower that took somebody for the leader takes nobody for it when it stands for election.
func TestTimeoutOfAFollower(t *testing.T) {
	b := made(t, 1, 3)
	b.Take(api.Msg{Kind: api.Feed, From: 2, To: 1, Term: 4, List: entries(4)})
	checkState(t, b, ballot.State{Term: 4, Vote: -1, Lead: 2, Last: 1})
	b.Timeout()
	checkState(t, b, ballot.State{Term: 5, Vote: 1, Role: candidate, Lead: -1, Last: 1})
}

// P9.1: votes of an earlier term are no more there behind a Timeout.
func TestTimeoutForgetsVotes(t *testing.T) {
	b := made(t, 0, 5)
	b.Timeout()
	checkMsgs(t, b.Take(api.Msg{Kind: api.Vote, From: 1, Term: 1, Good: true}))
	b.Timeout()
	checkMsgs(t, b.Take(api.Msg{Kind: api.Vote, From: 2, Term: 2, Good: true}))
	checkState(t, b, ballot.State{Term: 2, Role: candidate, Lead: -1})
	if l := b.Take(api.Msg{Kind: api.Vote, From: 1, Term: 2, Good: true}); len(l) != 4 {
		t.Fatalf("with three votes it doesn't lead: %v", l)
	}
}

// P9.1: in a group of one Timeout leads, and all is committed at once, what was there too.
func TestGroupOfOne(t *testing.T) {
	b := loaded(t, 0, 1, whole(6, 4, 3, 5, 6))
	checkState(t, b, ballot.State{Term: 6, Vote: -1, Lead: -1, Base: 4, Last: 6, Commit: 4})
	checkMsgs(t, b.Timeout())
	checkState(t, b, ballot.State{Term: 7, Role: leader, Base: 4, Last: 7, Commit: 7})
	checkMsgs(t, b.Timeout())
	checkMsgs(t, b.Beat())
	n, l := b.Propose(8, 9, "x")
	if n != 8 {
		t.Fatalf("Propose: %d, not 8", n)
	}
	checkMsgs(t, l)
	checkState(t, b, ballot.State{Term: 7, Role: leader, Base: 4, Last: 8, Commit: 8})
	checkLog(t, b, 4, append(entries(5, 6), api.Entry{Term: 7}, api.Entry{Term: 7, At: 8, Born: 9, Text: "x"})...)
}

// P9.1: a leader does nothing at a Timeout.
func TestTimeoutOfALeader(t *testing.T) {
	b := led(t, 3)
	before := b.Stand()
	checkMsgs(t, b.Timeout())
	checkState(t, b, before)
	checkNoDelta(t, b)
}

// P9.1: who leads feeds all from behind its last on, with an entry of its term and without a text.
func TestLeadBehindALog(t *testing.T) {
	b := loaded(t, 2, 3, whole(6, 4, 3, 5, 6))
	b.Timeout()
	own := []api.Entry{{Term: 7}}
	checkMsgs(t, b.Take(api.Msg{Kind: api.Vote, From: 0, To: 2, Term: 7, Good: true}),
		api.Msg{Kind: api.Feed, From: 2, To: 0, Term: 7, Index: 6, Prev: 6, Commit: 4, List: own},
		api.Msg{Kind: api.Feed, From: 2, To: 1, Term: 7, Index: 6, Prev: 6, Commit: 4, List: own})
	checkState(t, b, ballot.State{Term: 7, Vote: 2, Role: leader, Lead: 2, Base: 4, Last: 7, Commit: 4})
	checkLog(t, b, 4, append(entries(5, 6), own...)...)
}

// P9.1: what an earlier time as a leader knew of the others is forgotten by the next one.
func TestLeadForgetsMatches(t *testing.T) {
	b := led(t, 3)
	b.Take(api.Msg{Kind: api.Fed, From: 1, Term: 1, Good: true, Index: 1})
	b.Take(api.Msg{Kind: api.Ask, From: 1, Term: 2})
	b.Timeout()
	one := []api.Entry{{Term: 3}}
	checkMsgs(t, b.Take(api.Msg{Kind: api.Vote, From: 2, Term: 3, Good: true}),
		api.Msg{Kind: api.Feed, To: 1, Term: 3, Index: 1, Prev: 1, Commit: 1, List: one},
		api.Msg{Kind: api.Feed, To: 2, Term: 3, Index: 1, Prev: 1, Commit: 1, List: one})
	b.Propose(0, 0, "x")
	checkMsgs(t, b.Take(api.Msg{Kind: api.Fed, From: 1, Term: 3, Index: -1}),
		api.Msg{Kind: api.Feed, To: 1, Term: 3, Commit: 1, List: []api.Entry{{Term: 1}, {Term: 3}, {Term: 3, Text: "x"}}})
}

// P9.1: Beat feeds all others, as far as each one is; up to MaxFeed entries go in one message.
func TestBeat(t *testing.T) {
	for size := 2; size <= api.MaxNodes; size++ {
		b := led(t, size)
		all := []api.Entry{{Term: 1}}
		for k := range 12 {
			b.Propose(k, 2*k, "x")
			all = append(all, api.Entry{Term: 1, At: k, Born: 2 * k, Text: "x"})
		}
		b.Take(api.Msg{Kind: api.Fed, From: size - 1, Term: 1, Good: true, Index: 3})
		commit := 0
		if size <= 3 {
			commit = 3
		}
		var want []api.Msg
		for to := 1; to < size-1; to++ {
			want = append(want, api.Msg{Kind: api.Feed, To: to, Term: 1, Commit: commit, List: all[:api.MaxFeed]})
		}
		want = append(want, api.Msg{Kind: api.Feed, To: size - 1, Term: 1, Index: 3, Prev: 1, Commit: commit, List: all[3 : 3+api.MaxFeed]})
		for range 2 {
			checkMsgs(t, b.Beat(), want...)
		}
		b.Delta()
		b.Beat()
		checkNoDelta(t, b)
	}
}

// P9.1: a feed has what is there, if that is fewer than MaxFeed entries, or just as many.
func TestFeedAtItsLimit(t *testing.T) {
	for many := 1; many <= 10; many++ {
		b := led(t, 2)
		all := []api.Entry{{Term: 1}}
		for len(all) < many {
			b.Propose(0, len(all), "x")
			all = append(all, api.Entry{Term: 1, Born: len(all), Text: "x"})
		}
		checkMsgs(t, b.Beat(), api.Msg{Kind: api.Feed, To: 1, Term: 1, List: all[:min(many, 8)]})
	}
}

// P9.1: only a leader beats and is proposed to.
func TestNotALeader(t *testing.T) {
	asFollower := loaded(t, 0, 3, whole(6, 4, 3, 5, 6))
	asCandidate := loaded(t, 0, 3, whole(6, 4, 3, 5, 6))
	asCandidate.Timeout()
	for _, b := range []*ballot.Ballot{asFollower, asCandidate} {
		b.Delta()
		before := b.Stand()
		checkMsgs(t, b.Beat())
		n, l := b.Propose(1, 2, "x")
		if n != 0 {
			t.Fatalf("Propose: %d, not 0", n)
		}
		checkMsgs(t, l)
		checkState(t, b, before)
		checkLog(t, b, 4, entries(5, 6)...)
		checkNoDelta(t, b)
	}
}

// P9.1: Propose answers the entry's number and feeds all; any numbers and any text may be proposed.
func TestPropose(t *testing.T) {
	b := led(t, 3, whole(6, 4, 3, 5, 6))
	all := append(entries(5, 6), api.Entry{Term: 7})
	for k, e := range []api.Entry{{Term: 7, At: 3, Born: 4, Text: "x"}, {Term: 7}, {Term: 7, At: math.MinInt, Born: math.MaxInt, Text: "\x00\xff"}} {
		n, l := b.Propose(e.At, e.Born, e.Text)
		all = append(all, e)
		if n != 8+k {
			t.Fatalf("Propose: %d, not %d", n, 8+k)
		}
		checkMsgs(t, l, api.Msg{Kind: api.Feed, To: 1, Term: 7, Index: 6, Prev: 6, Commit: 4, List: all[2:]},
			api.Msg{Kind: api.Feed, To: 2, Term: 7, Index: 6, Prev: 6, Commit: 4, List: all[2:]})
		checkLog(t, b, 4, all...)
	}
}

// P9.2: Cut takes what is committed, and no more; the entries behind it stay.
func TestCut(t *testing.T) {
	b := loaded(t, 0, 3, whole(6, 4, 3, 5, 5, 6, 6, 6))
	b.Take(api.Msg{Kind: api.Feed, From: 1, Term: 6, Index: 9, Prev: 6, Commit: 7})
	b.Take(api.Msg{Kind: api.Feed, From: 1, Term: 6, Index: 8, Prev: 6, Commit: 8})
	checkState(t, b, ballot.State{Term: 6, Vote: -1, Lead: 1, Base: 4, Last: 9, Commit: 8})
	refused := func(list ...int) {
		t.Helper()
		before, snap := b.Stand(), b.Snap()
		for _, i := range list {
			if b.Cut(i, "wrong") {
				t.Fatalf("Cut(%d) of %+v: true", i, before)
			}
		}
		checkState(t, b, before)
		checkNoDelta(t, b)
		if b.Snap() != snap {
			t.Fatalf("Snap: %q, not %q", b.Snap(), snap)
		}
	}
	refused(math.MinInt, -1, 0, 3, 4, 9, 10, mostKept, math.MaxInt)
	if !b.Cut(6, "six") || b.Snap() != "six" {
		t.Fatalf("Cut(6): false, or Snap %q", b.Snap())
	}
	checkState(t, b, ballot.State{Term: 6, Vote: -1, Lead: 1, Base: 6, Last: 9, Commit: 8})
	all := entries(5, 5, 6, 6, 6)
	checkLog(t, b, 6, all[2:]...)
	checkDelta(t, b, api.Delta{Term: 6, Vote: -1, Whole: true, Base: 6, BaseTerm: 5, Snap: "six", From: 7, List: all[2:]})
	refused(4, 5, 6, 9)
	if !b.Cut(8, "") || b.Snap() != "" {
		t.Fatalf("Cut(8): false, or Snap %q", b.Snap())
	}
	checkLog(t, b, 8, all[4:]...)
	checkDelta(t, b, api.Delta{Term: 6, Vote: -1, Whole: true, Base: 8, BaseTerm: 6, From: 9, List: all[4:]})
	refused(7, 8, 9)
}

// P9.2: when all is cut away the base is the last, and the log goes on behind it.
func TestCutAll(t *testing.T) {
	b := led(t, 1)
	b.Propose(1, 2, "x")
	if !b.Cut(2, "all") {
		t.Fatal("Cut(2): false")
	}
	checkLog(t, b, 2)
	checkState(t, b, ballot.State{Term: 1, Role: leader, Base: 2, Last: 2, Commit: 2})
	b.Delta()
	if n, _ := b.Propose(3, 4, "y"); n != 3 {
		t.Fatalf("Propose: %d, not 3", n)
	}
	y := api.Entry{Term: 1, At: 3, Born: 4, Text: "y"}
	checkLog(t, b, 2, y)
	checkDelta(t, b, api.Delta{Term: 1, From: 3, List: []api.Entry{y}})
}

// P9.2: a log that is cut one entry at a time, or at each one that is proposed, takes no long time.
func TestCutOften(t *testing.T) {
	const many = 60000
	b := made(t, 0, 1)
	b.Timeout()
	for range many {
		b.Propose(0, 0, "x")
	}
	for i := 1; i <= many; i++ {
		if !b.Cut(i, "") {
			t.Fatalf("Cut(%d): false", i)
		}
	}
	for i := many + 2; i <= 2*many; i++ {
		if n, _ := b.Propose(0, 0, "y"); n != i || !b.Cut(i-1, "") {
			t.Fatalf("Propose: %d, not %d, or Cut: false", n, i)
		}
	}
	checkLog(t, b, 2*many-1, api.Entry{Term: 1, Text: "y"})
}

// P9.6: of nil nothing, 0, false, and the zero State.
func TestNil(t *testing.T) {
	var b *ballot.Ballot
	checkMsgs(t, b.Timeout())
	checkMsgs(t, b.Beat())
	n, l := b.Propose(1, 2, "x")
	if n != 0 {
		t.Fatalf("Propose: %d", n)
	}
	checkMsgs(t, l)
	for kind := range 7 {
		checkMsgs(t, b.Take(api.Msg{Kind: kind, From: 1, Term: 1, Good: true}))
	}
	for _, i := range []int{math.MinInt, -1, 0, 1, math.MaxInt} {
		if b.Cut(i, "x") {
			t.Fatalf("Cut(%d): true", i)
		}
	}
	checkNoDelta(t, b)
	checkState(t, b, ballot.State{})
	checkLog(t, b, 0)
	if b.Snap() != "" {
		t.Fatalf("Snap: %q", b.Snap())
	}
}

// Rule 1: a ballot that neither New nor Load made doesn't panic, and sends nothing.
func TestZeroBallot(t *testing.T) {
	var b ballot.Ballot
	for range 2 {
		checkMsgs(t, b.Beat())
		for kind := range 7 {
			for from := range 3 {
				checkMsgs(t, b.Take(api.Msg{Kind: kind, From: from, Term: 1, Index: 1, Good: true, List: entries(1)}))
			}
		}
		n, l := b.Propose(1, 2, "x")
		if n != 0 || len(l) != 0 || b.Cut(1, "x") || b.Cut(0, "x") || b.Snap() != "" {
			t.Fatalf("Propose: %d, %v, or Cut: true, or Snap: %q", n, l, b.Snap())
		}
		checkLog(t, &b, 0)
		b.Delta()
		checkMsgs(t, b.Timeout())
	}
}

// P9.6: what is told is new memory, and what is handed in is neither changed nor kept.
func TestMemory(t *testing.T) {
	spoil := func(lists ...[]api.Entry) {
		for _, l := range lists {
			l = l[:cap(l)]
			for i := range l {
				l[i] = api.Entry{Term: -9, Text: "spoilt"}
			}
		}
	}
	want := entries(1, 1, 2)
	handed := append(make([]api.Entry, 0, 8), want...)
	b := loaded(t, 0, 3, api.Delta{Term: 2, Vote: -1, From: 1, List: handed[:1]}, api.Delta{Term: 2, Vote: -1, From: 2, List: handed[1:]})
	checkLog(t, b, 0, want...)
	if !slices.Equal(handed, want) || handed[:4][3] != (api.Entry{}) {
		t.Fatalf("what was handed in is changed: %v", handed[:cap(handed)])
	}
	spoil(handed)
	checkLog(t, b, 0, want...)

	fed := append(make([]api.Entry, 0, 8), entries(3, 3)...)
	b.Take(api.Msg{Kind: api.Feed, From: 1, Term: 3, Index: 2, Prev: 1, List: fed})
	want = append(want[:2:2], entries(3, 3)...)
	b.Take(api.Msg{Kind: api.Feed, From: 1, Term: 3, Index: 3, Prev: 3, List: []api.Entry{{Term: 4}}})
	b.Take(api.Msg{Kind: api.Feed, From: 1, Term: 3, Index: 3, Prev: 3, List: entries(5, 3)[1:]})
	if !slices.Equal(fed, entries(3, 3)) || fed[:3][2] != (api.Entry{}) {
		t.Fatalf("what was handed in is changed: %v", fed[:cap(fed)])
	}
	spoil(fed)
	checkLog(t, b, 0, want...)
	d, _ := b.Delta()
	spoil(d.List)
	checkLog(t, b, 0, want...)

	whole := whole(3, 2, 1, 3, 3)
	b = led(t, 3, whole)
	spoil(whole.List)
	b.Take(api.Msg{Kind: api.Fed, From: 1, Term: 4, Index: 2})
	b.Take(api.Msg{Kind: api.Fed, From: 2, Term: 4, Index: 2})
	_, l := b.Propose(0, 0, "x")
	spoil(l[0].List)
	want = append(entries(3, 3), api.Entry{Term: 4}, api.Entry{Term: 4, Text: "x"})
	if !slices.Equal(l[1].List, want) {
		t.Fatalf("two lists of one answer share memory: %v", l[1].List)
	}
	spoil(l[1].List)
	checkLog(t, b, 2, want...)
}

// Rule 7: two ballots never meet.
func TestTwoNeverMeet(t *testing.T) {
	d := whole(3, 2, 1, 3, 3)
	a, b := led(t, 3, d), led(t, 3, d)
	a.Propose(1, 2, "a")
	b.Propose(3, 4, "b")
	checkLog(t, a, 2, append(entries(3, 3), api.Entry{Term: 4}, api.Entry{Term: 4, At: 1, Born: 2, Text: "a"})...)
	checkLog(t, b, 2, append(entries(3, 3), api.Entry{Term: 4}, api.Entry{Term: 4, At: 3, Born: 4, Text: "b"})...)
}
