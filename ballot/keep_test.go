package ballot_test

import (
	"math"
	"math/rand"
	"testing"

	"lintel/api"
	"lintel/ballot"
)

// P9.3: what changes nothing that is kept has no Delta.
func TestNoDelta(t *testing.T) {
	b := ahead(t, 4)
	b.Take(api.Msg{Kind: api.Feed, From: 2, Term: 6, Index: 9, Prev: 6, Commit: 9})                   // what is committed
	b.Take(api.Msg{Kind: api.Feed, From: 2, Term: 6, Index: 8, Prev: 6, Commit: 9, List: entries(6)}) // what is there
	b.Take(api.Msg{Kind: api.Ask, From: 2, Term: 6, Index: 1, Prev: 1})                               // no vote
	b.Take(api.Msg{Kind: api.Ask, From: 2, Term: 5, Index: 9, Prev: 9})
	b.Take(api.Msg{Kind: api.Feed, From: 2, Term: 6, Index: 12, Prev: 6, List: entries(6)})
	b.Take(api.Msg{Kind: api.Give, From: 2, Term: 6, Index: 9, Prev: 6, Snap: "snap"})
	b.Take(api.Msg{Kind: api.Vote, From: 2, Term: 6, Good: true})
	b.Beat()
	b.Propose(1, 2, "x")
	b.Cut(10, "x")
	checkNoDelta(t, b)
}

// P9.3: each change of the term, the vote and the log is in the next Delta, and in that alone.
func TestDeltaStepByStep(t *testing.T) {
	b := made(t, 0, 3)
	b.Timeout()
	checkDelta(t, b, api.Delta{Term: 1, Vote: 0, From: 1})
	b.Take(api.Msg{Kind: api.Vote, From: 1, Term: 1})
	checkNoDelta(t, b)
	b.Take(api.Msg{Kind: api.Vote, From: 1, Term: 1, Good: true})
	own := api.Entry{Term: 1}
	checkDelta(t, b, api.Delta{Term: 1, Vote: 0, From: 1, List: []api.Entry{own}})
	b.Propose(2, 3, "x")
	checkDelta(t, b, api.Delta{Term: 1, Vote: 0, From: 2, List: []api.Entry{{Term: 1, At: 2, Born: 3, Text: "x"}}})
	b.Take(api.Msg{Kind: api.Ask, From: 1, Term: 2})
	checkDelta(t, b, api.Delta{Term: 2, Vote: -1, From: 3})
	b.Take(api.Msg{Kind: api.Ask, From: 1, Term: 2, Index: 2, Prev: 1})
	checkDelta(t, b, api.Delta{Term: 2, Vote: 1, From: 3})
	b.Take(api.Msg{Kind: api.Feed, From: 1, Term: 2, Index: 1, Prev: 1, Commit: 1, List: entries(2)})
	checkDelta(t, b, api.Delta{Term: 2, Vote: 1, From: 2, List: entries(2)})
	b.Cut(1, "one")
	checkDelta(t, b, api.Delta{Term: 2, Vote: 1, Whole: true, Base: 1, BaseTerm: 1, Snap: "one", From: 2, List: entries(2)})
	b.Take(api.Msg{Kind: api.Feed, From: 1, Term: 2, Index: 2, Prev: 2, List: entries(2)})
	checkDelta(t, b, api.Delta{Term: 2, Vote: 1, From: 3, List: entries(2)})
}

// P9.3: a vote that is given again is one that is set.
func TestDeltaOfAVoteAgain(t *testing.T) {
	b := made(t, 0, 3)
	for range 3 {
		b.Take(api.Msg{Kind: api.Ask, From: 1, Term: 1})
		checkDelta(t, b, api.Delta{Term: 1, Vote: 1, From: 1})
	}
}

// P9.3: of several changes the least number counts, whichever came first; the entries are those of the end.
func TestDeltaOfSeveral(t *testing.T) {
	feed := func(b *ballot.Ballot, index, prev int, terms ...int) {
		b.Take(api.Msg{Kind: api.Feed, From: 1, Term: 6, Index: index, Prev: prev, List: entries(terms...)})
	}
	old := known().List

	b := ahead(t, 4)
	feed(b, 9, 6, 6)
	feed(b, 7, 6, 7)
	checkDelta(t, b, api.Delta{Term: 6, Vote: -1, From: 8, List: entries(7)})

	b = ahead(t, 4)
	feed(b, 7, 6, 7)
	feed(b, 8, 7, 8, 9)
	checkDelta(t, b, api.Delta{Term: 6, Vote: -1, From: 8, List: append(entries(7), entries(8, 9)...)})

	// An entry that was taken away and is there again was touched all the same.
	b = ahead(t, 4)
	feed(b, 8, 6, 7)
	b.Take(api.Msg{Kind: api.Feed, From: 1, Term: 6, Index: 8, Prev: 6, List: old[4:]})
	checkLog(t, b, 4, old...)
	checkDelta(t, b, api.Delta{Term: 6, Vote: -1, From: 9, List: old[4:]})

	// With another base all is told.
	b = ahead(t, 7)
	feed(b, 8, 6, 7)
	b.Cut(5, "five")
	b.Cut(6, "six")
	feed(b, 9, 7, 8)
	checkDelta(t, b, api.Delta{Term: 6, Vote: -1, Whole: true, Base: 6, BaseTerm: 5, Snap: "six", From: 7, List: append(append(old[2:4:4], entries(7)...), entries(8)...)})
}

// P9.4: without deltas Load is New.
func TestLoadNothing(t *testing.T) {
	for _, list := range [][]api.Delta{nil, {}} {
		b := loaded(t, 2, 3, list...)
		checkState(t, b, ballot.State{Vote: -1, Lead: -1})
		checkLog(t, b, 0)
		checkNoDelta(t, b)
	}
}

// P9.4: deltas are done one behind the other; whatever the ballot was, it is a follower, committed up to its base.
func TestLoad(t *testing.T) {
	list := []api.Delta{
		{Term: 1, Vote: 2, From: 1, List: entries(1, 1, 1)},
		{Term: 2, Vote: -1, From: 4},
		{Term: 2, Vote: 0, From: 2, List: entries(2, 2)},
		{Term: 3, Vote: 1, Whole: true, Base: 2, BaseTerm: 7, Snap: "two", From: 99, List: entries(3, 3, 3)},
		{Term: 4, Vote: -1, Base: 55, BaseTerm: 66, Snap: "none", From: 4, List: entries(4)},
		{Term: 3, Vote: 1, From: 5, List: entries(5)},
		{Term: 4, Vote: 2, From: 3},
		{Term: 9, Vote: 1, Whole: true, Base: 1, BaseTerm: 0, From: -5},
		{Term: 9, Vote: 1, From: 2, List: entries(9)},
	}
	for k, want := range []struct {
		state ballot.State
		snap  string
		log   []api.Entry
	}{
		{ballot.State{Term: 1, Vote: 2, Last: 3}, "", entries(1, 1, 1)},
		{ballot.State{Term: 2, Vote: -1, Last: 3}, "", entries(1, 1, 1)},
		{ballot.State{Term: 2, Vote: 0, Last: 3}, "", append(entries(1), entries(2, 2)...)},
		{ballot.State{Term: 3, Vote: 1, Base: 2, Last: 5}, "two", entries(3, 3, 3)},
		{ballot.State{Term: 4, Vote: -1, Base: 2, Last: 4}, "two", append(entries(3), entries(4)...)},
		{ballot.State{Term: 3, Vote: 1, Base: 2, Last: 5}, "two", append(append(entries(3), entries(4)...), entries(5)...)},
		{ballot.State{Term: 4, Vote: 2, Base: 2, Last: 2}, "two", nil},
		{ballot.State{Term: 9, Vote: 1, Base: 1, Last: 1}, "", nil},
		{ballot.State{Term: 9, Vote: 1, Base: 1, Last: 2}, "", entries(9)},
	} {
		b := loaded(t, 0, 3, list[:k+1]...)
		want.state.Lead, want.state.Commit = -1, want.state.Base
		checkState(t, b, want.state)
		checkLog(t, b, want.state.Base, want.log...)
		checkNoDelta(t, b)
		if b.Snap() != want.snap {
			t.Fatalf("Snap: %q, not %q", b.Snap(), want.snap)
		}
	}
}

// P9.4: the term of a loaded base is what a candidate is held against.
func TestLoadBaseTerm(t *testing.T) {
	b := loaded(t, 0, 2, api.Delta{Term: 9, Vote: -1, Whole: true, Base: 2, BaseTerm: 7})
	checkMsgs(t, b.Timeout(), api.Msg{Kind: api.Ask, To: 1, Term: 10, Index: 2, Prev: 7})
}

// P9.4: the numbers at the ends of what a delta may have are loaded, those beyond are refused, at any place of the list.
func TestLoadForms(t *testing.T) {
	const node = 4
	first := []api.Delta{whole(2, 3, 1, 2, 2), {Term: 2, Vote: -1, From: 5, List: entries(2, 2)}} // base 3, last 6
	may := []api.Delta{
		{Vote: -1, From: 7}, {Term: mostKept, Vote: -1, From: 7}, {Term: 1, Vote: 0, From: 7}, {Vote: node, From: 7},
		{Vote: -1, From: 4}, {Vote: -1, From: 5, List: entries(math.MinInt, math.MaxInt)},
		{Vote: -1, Whole: true}, {Vote: -1, Whole: true, Base: mostKept, BaseTerm: mostKept, From: math.MaxInt},
		{Vote: -1, Base: -1, BaseTerm: -1, From: 7}, {Vote: -1, Base: math.MaxInt, BaseTerm: math.MaxInt, From: 7},
		{Vote: -1, Whole: true, Base: 3, From: math.MinInt},
	}
	mayNot := []api.Delta{
		{Term: -1, Vote: -1, From: 7}, {Term: mostKept + 1, Vote: -1, From: 7}, {Term: math.MinInt, Vote: -1, From: 7}, {Term: math.MaxInt, Vote: -1, From: 7},
		{Vote: -2, From: 7}, {Vote: node + 1, From: 7}, {Vote: math.MinInt, From: 7}, {Vote: math.MaxInt, From: 7},
		{Vote: -1, From: 3}, {Vote: -1, From: 8}, {Vote: -1}, {Vote: -1, From: -1}, {Vote: -1, From: math.MinInt}, {Vote: -1, From: math.MaxInt},
		{Vote: -1, Whole: true, Base: -1}, {Vote: -1, Whole: true, Base: mostKept + 1}, {Vote: -1, Whole: true, Base: math.MaxInt}, {Vote: -1, Whole: true, Base: math.MinInt},
		{Vote: -1, Whole: true, BaseTerm: -1}, {Vote: -1, Whole: true, BaseTerm: mostKept + 1}, {Vote: -1, Whole: true, BaseTerm: math.MaxInt},
		{Term: -1, Vote: -1, Whole: true}, {Vote: 5, Whole: true},
	}
	for _, d := range may {
		b := loaded(t, 1, node+1, first[0], first[1], d)
		if s := b.Stand(); s.Term != d.Term || s.Vote != d.Vote {
			t.Fatalf("%+v: %+v", d, s)
		}
	}
	last := whole(9, 0, 0)
	for _, d := range mayNot {
		for _, list := range [][]api.Delta{{first[0], first[1], d}, {first[0], first[1], d, last}} {
			if b, err := ballot.Load(1, node+1, list); b != nil || err != api.ErrForm {
				t.Fatalf("%+v: %v, %d, not nil, ErrForm", d, b, err)
			}
			if b, err := ballot.Load(node+1, node+1, list); b != nil || err != api.ErrArg {
				t.Fatalf("%+v: %v, %d, not nil, ErrArg", d, b, err)
			}
		}
	}
	for _, x := range [][2]int{{0, 0}, {-1, 3}, {3, 3}, {0, 6}, {math.MaxInt, math.MaxInt}, {math.MinInt, math.MinInt}} {
		if b, err := ballot.Load(x[0], x[1], nil); b != nil || err != api.ErrArg {
			t.Fatalf("Load(%d, %d): %v, %d, not nil, ErrArg", x[0], x[1], b, err)
		}
	}
}

// P9.4: what may be a node's vote hangs on the size of the group.
func TestLoadVoteBySize(t *testing.T) {
	for size := 1; size <= api.MaxNodes; size++ {
		for vote := -3; vote < 8; vote++ {
			b, err := ballot.Load(0, size, []api.Delta{{Vote: vote, From: 1}})
			if good := -1 <= vote && vote < size; (err == api.OK) != good || (b != nil) != good {
				t.Fatalf("size %d, vote %d: %v, %d", size, vote, b, err)
			}
		}
	}
}

// P9.4: a ballot of the greatest term goes on.
func TestLoadGreatestTerm(t *testing.T) {
	b := loaded(t, 0, 1, api.Delta{Term: mostKept, Vote: 0, Whole: true, Base: mostKept, BaseTerm: mostKept})
	b.Timeout()
	checkState(t, b, ballot.State{Term: mostKept + 1, Role: leader, Base: mostKept, Last: mostKept + 1, Commit: mostKept + 1})
	checkLog(t, b, mostKept, api.Entry{Term: mostKept + 1})
}

// chance answers a message to a node that is now and then sensible: its numbers are near those of the ballot.
func chance(r *rand.Rand, id, size int, s ballot.State) api.Msg {
	near := func(n, by int) int { return max(n+r.Intn(2*by+1)-by, 0) }
	m := api.Msg{Kind: 1 + r.Intn(5), From: r.Intn(size), To: id, Term: near(s.Term, 1), Good: r.Intn(3) > 0}
	m.Index, m.Prev, m.Commit = near(s.Last, 4), near(s.Term, 2), near(s.Commit, 3)
	switch r.Intn(4) {
	case 0:
		m.Index = near(s.Commit, 4)
	case 1:
		m.Index = near(s.Base, 2)
	}
	if m.Kind == api.Feed {
		for range r.Intn(5) {
			m.List = append(m.List, api.Entry{Term: near(s.Term, 1), Born: r.Int(), Text: "x"})
		}
	}
	if m.Kind == api.Give && r.Intn(4) > 0 {
		m.Index = near(s.Base, 3)
	}
	if r.Intn(30) == 0 {
		m.Index = -1
	}
	return m
}

// fitting makes a Feed's Prev the term of the entry that is there, most times.
func fitting(r *rand.Rand, b *ballot.Ballot, m api.Msg) api.Msg {
	if e, ok := b.Entry(m.Index); ok && r.Intn(4) > 0 {
		m.Prev = e.Term
	}
	return m
}

// P9.5: in one term one node at most gets the vote, though the ballot is loaded again and again of all its deltas.
func TestOneVoteInATerm(t *testing.T) {
	for seed := range int64(300) {
		r := rand.New(rand.NewSource(seed))
		size := 2 + r.Intn(4)
		id := r.Intn(size)
		b := made(t, id, size)
		var kept []api.Delta
		given := map[int]int{}
		vote := func(term, to int) {
			if had, ok := given[term]; ok && had != to {
				t.Fatalf("seed %d: the vote of the term %d goes to %d and to %d", seed, term, had, to)
			}
			given[term] = to
		}
		for range 300 {
			switch r.Intn(8) {
			case 0:
				for _, m := range b.Timeout() {
					vote(m.Term, id)
				}
			case 1:
				b = loaded(t, id, size, kept...)
			default:
				m := chance(r, id, size, b.Stand())
				if r.Intn(2) == 0 {
					m.Kind, m.Prev = api.Ask, m.Term
				}
				for _, out := range b.Take(m) {
					if out.Kind == api.Vote && out.Good {
						vote(out.Term, out.To)
					}
				}
			}
			if d, ok := b.Delta(); ok {
				kept = append(kept, d)
			}
		}
		if len(given) < 5 {
			t.Fatalf("seed %d: only %d votes", seed, len(given))
		}
	}
}

// P9.5: whatever messages come, what is committed stays: how far it is, and each entry that the base doesn't pass.
func TestCommittedStays(t *testing.T) {
	for seed := range int64(300) {
		r := rand.New(rand.NewSource(seed))
		size := 1 + r.Intn(5)
		id := r.Intn(size)
		b := made(t, id, size)
		done := map[int]api.Entry{}
		for range 300 {
			before := b.Stand()
			switch r.Intn(10) {
			case 0:
				b.Timeout()
			case 1:
				b.Propose(r.Int(), r.Int(), "y")
			default:
				b.Take(fitting(r, b, chance(r, id, size, before)))
			}
			s := b.Stand()
			if s.Commit < before.Commit || s.Base < before.Base || s.Base > s.Commit || s.Commit > s.Last || s.Term < before.Term {
				t.Fatalf("seed %d: %+v behind %+v", seed, s, before)
			}
			for i := s.Base + 1; i <= s.Commit; i++ {
				e, ok := b.Entry(i)
				if had, there := done[i]; !ok || there && had != e {
					t.Fatalf("seed %d: entry %d is %v, %v, and was %v", seed, i, e, ok, had)
				}
				done[i] = e
			}
		}
	}
}
