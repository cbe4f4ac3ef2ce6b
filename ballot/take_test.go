package ballot_test

import (
	"math"
	"testing"

	"lintel/api"
	"lintel/ballot"
)

// known is the log of many tests: base 4 of the term 3, entries 5 to 9.
func known() api.Delta { return whole(6, 4, 3, 5, 5, 6, 6, 6) }

// ahead answers a follower with that log, of which entries up to commit are committed.
func ahead(t *testing.T, commit int) *ballot.Ballot {
	t.Helper()
	b := loaded(t, 0, 3, known())
	checkMsgs(t, b.Take(api.Msg{Kind: api.Feed, From: 1, Term: 6, Index: 9, Prev: 6, Commit: commit}),
		api.Msg{Kind: api.Fed, To: 1, Term: 6, Index: 9, Good: true})
	checkState(t, b, ballot.State{Term: 6, Vote: -1, Lead: 1, Base: 4, Last: 9, Commit: commit})
	checkNoDelta(t, b)
	return b
}

// good answers a message of each kind that a node 0 of a group of three takes, of a term above its own.
func good(kind int) api.Msg {
	return api.Msg{Kind: kind, From: 1, Term: 9, Index: 9, Prev: 6, Commit: 5, Good: true}
}

// P9.1: messages that no other node of the group could send are let by, of a follower, a candidate and a leader.
func TestLetBy(t *testing.T) {
	asCandidate := loaded(t, 0, 3, known())
	asCandidate.Timeout()
	asCandidate.Delta()
	for _, b := range []*ballot.Ballot{ahead(t, 6), asCandidate, led(t, 3, known())} {
		before := b.Stand()
		check := func(m api.Msg) {
			t.Helper()
			checkMsgs(t, b.Take(m))
			checkState(t, b, before)
			checkNoDelta(t, b)
		}
		for kind := api.Ask; kind <= api.Give; kind++ {
			wrongKinds := []int{math.MinInt, -kind, -1, 0, 6, 7, kind + 256, math.MaxInt}
			for _, wrong := range wrongKinds {
				m := good(kind)
				m.Kind = wrong
				check(m)
			}
			for _, wrong := range []int{math.MinInt, -1, 0, 3, 4, 5, 1 << 32, math.MaxInt} {
				m := good(kind)
				m.From = wrong
				check(m)
			}
			for _, wrong := range []int{math.MinInt, -1, 1, 2, 3, 1 << 32, math.MaxInt} {
				m := good(kind)
				m.To = wrong
				check(m)
			}
			for _, wrong := range []int{math.MinInt, -1, 0, mostSent + 1, mostKept, math.MaxInt} {
				m := good(kind)
				m.Term = wrong
				check(m)
			}
			for _, wrong := range []int{math.MinInt, -2, -1, mostSent + 1, math.MaxInt} {
				m := good(kind)
				m.Prev = wrong
				check(m)
				m = good(kind)
				m.Commit = wrong
				check(m)
				m = good(kind)
				m.Index = wrong
				if kind != api.Fed || wrong != -1 {
					check(m)
				}
			}
		}
	}
}

// P9.1: the greatest and the least numbers that a message may have are taken: its term is the ballot's.
func TestNotLetBy(t *testing.T) {
	for kind := api.Ask; kind <= api.Give; kind++ {
		for _, n := range []int{0, mostSent} {
			b := ahead(t, 6)
			b.Take(api.Msg{Kind: kind, From: 2, Term: mostSent, Index: n, Prev: n, Commit: n})
			if s := b.Stand(); s.Term != mostSent {
				t.Fatalf("kind %d with %d is let by: %+v", kind, n, s)
			}
		}
		b := made(t, 0, 3)
		b.Take(api.Msg{Kind: kind, From: 2, Term: 1})
		if s := b.Stand(); s.Term != 1 {
			t.Fatalf("kind %d of the term 1 is let by: %+v", kind, s)
		}
	}
	b := ahead(t, 6)
	b.Take(api.Msg{Kind: api.Fed, From: 2, Term: 7, Index: -1})
	checkState(t, b, ballot.State{Term: 7, Vote: -1, Lead: -1, Base: 4, Last: 9, Commit: 6})
}

// P9.1: a greater term makes any ballot a follower of nobody, without a vote, whatever the message is.
func TestTermAbove(t *testing.T) {
	for kind := api.Ask; kind <= api.Give; kind++ {
		asCandidate := loaded(t, 0, 3, known())
		asCandidate.Timeout()
		asCandidate.Delta()
		for _, b := range []*ballot.Ballot{ahead(t, 4), asCandidate, led(t, 3, known())} {
			last := b.Stand().Last
			// No vote is given for it, and no entry is fed by it.
			m := api.Msg{Kind: kind, From: 2, Term: 20, Index: 1}
			out := b.Take(m)
			want := ballot.State{Term: 20, Vote: -1, Lead: -1, Base: 4, Last: last, Commit: 4}
			var answer []api.Msg
			switch kind {
			case api.Ask:
				answer = []api.Msg{{Kind: api.Vote, To: 2, Term: 20}}
			case api.Feed, api.Give:
				want.Lead = 2
				answer = []api.Msg{{Kind: api.Fed, To: 2, Term: 20, Good: true, Index: 1}}
			}
			checkMsgs(t, out, answer...)
			checkState(t, b, want)
			checkDelta(t, b, api.Delta{Term: 20, Vote: -1, From: last + 1})
		}
	}
}

// P9.1: a vote of an earlier term is none in a later one.
func TestVoteInTheNextTerm(t *testing.T) {
	b := made(t, 0, 3)
	b.Timeout()
	checkMsgs(t, b.Take(api.Msg{Kind: api.Ask, From: 2, Term: 1}), api.Msg{Kind: api.Vote, To: 2, Term: 1})
	checkMsgs(t, b.Take(api.Msg{Kind: api.Ask, From: 2, Term: 2}), api.Msg{Kind: api.Vote, To: 2, Term: 2, Good: true})
	checkMsgs(t, b.Take(api.Msg{Kind: api.Ask, From: 1, Term: 2}), api.Msg{Kind: api.Vote, To: 1, Term: 2})
	checkMsgs(t, b.Take(api.Msg{Kind: api.Ask, From: 1, Term: 3}), api.Msg{Kind: api.Vote, To: 1, Term: 3, Good: true})
}

// P9.1: a lesser term is answered with the ballot's own, and nothing else is done.
func TestTermBelow(t *testing.T) {
	asCandidate := loaded(t, 0, 3, known())
	asCandidate.Timeout()
	asCandidate.Delta()
	for _, b := range []*ballot.Ballot{ahead(t, 6), asCandidate, led(t, 3, known())} {
		before := b.Stand()
		for kind := api.Ask; kind <= api.Give; kind++ {
			m := api.Msg{Kind: kind, From: 2, Term: 5, Index: 9, Prev: 6, Commit: 9, Good: true, List: entries(7, 7), Snap: "snap"}
			out := b.Take(m)
			switch kind {
			case api.Ask:
				checkMsgs(t, out, api.Msg{Kind: api.Vote, To: 2, Term: before.Term})
			case api.Feed, api.Give:
				checkMsgs(t, out, api.Msg{Kind: api.Fed, To: 2, Term: before.Term, Index: before.Last})
			default:
				checkMsgs(t, out)
			}
			checkState(t, b, before)
			checkNoDelta(t, b)
		}
	}
}

// P9.1: a vote is given to who has no less in its log: a greater term of its last entry, or the same and no lesser number.
func TestAsk(t *testing.T) {
	for _, x := range []struct {
		index, prev int
		good        bool
	}{
		{9, 6, true}, {10, 6, true}, {8, 6, false}, {0, 7, true}, {8, 7, true}, {9, 5, false}, {mostSent, 5, false}, {0, mostSent, true}, {0, 0, false}, {mostSent, 0, false},
	} {
		b := ahead(t, 4)
		want := ballot.State{Term: 6, Vote: -1, Lead: 1, Base: 4, Last: 9, Commit: 4}
		checkMsgs(t, b.Take(api.Msg{Kind: api.Ask, From: 2, Term: 6, Index: x.index, Prev: x.prev}),
			api.Msg{Kind: api.Vote, To: 2, Term: 6, Good: x.good})
		if !x.good {
			checkState(t, b, want)
			checkNoDelta(t, b)
			continue
		}
		want.Vote = 2
		checkState(t, b, want)
		checkDelta(t, b, api.Delta{Term: 6, Vote: 2, From: 10})
	}
}

// P9.1: where no entry is behind the base, who asks is held against the base.
func TestAskBehindABase(t *testing.T) {
	for _, x := range []struct {
		index, prev int
		good        bool
	}{{4, 3, true}, {3, 3, false}, {5, 2, false}, {1, 4, true}} {
		b := loaded(t, 0, 3, whole(6, 4, 3))
		checkMsgs(t, b.Take(api.Msg{Kind: api.Ask, From: 2, Term: 6, Index: x.index, Prev: x.prev}),
			api.Msg{Kind: api.Vote, To: 2, Term: 6, Good: x.good})
	}
}

// P9.1, P9.5: who has the vote gets it again; nobody else gets it, not even with a longer log.
func TestAskTwice(t *testing.T) {
	b := made(t, 0, 5)
	for range 3 {
		checkMsgs(t, b.Take(api.Msg{Kind: api.Ask, From: 3, Term: 2}), api.Msg{Kind: api.Vote, To: 3, Term: 2, Good: true})
		for _, from := range []int{1, 2, 4} {
			checkMsgs(t, b.Take(api.Msg{Kind: api.Ask, From: from, Term: 2, Index: 9, Prev: 2}), api.Msg{Kind: api.Vote, To: from, Term: 2})
		}
		checkState(t, b, ballot.State{Term: 2, Vote: 3, Lead: -1})
	}
	// Its log may have grown since: then who has the vote is answered as anybody is.
	b.Take(api.Msg{Kind: api.Feed, From: 3, Term: 2, List: entries(2)})
	checkMsgs(t, b.Take(api.Msg{Kind: api.Ask, From: 3, Term: 2}), api.Msg{Kind: api.Vote, To: 3, Term: 2})
}

// P9.1: a candidate and a leader have their own vote, and give none in their term.
func TestAskOfThoseWhoStand(t *testing.T) {
	asCandidate := made(t, 0, 3)
	asCandidate.Timeout()
	for _, b := range []*ballot.Ballot{asCandidate, led(t, 3)} {
		before := b.Stand()
		checkMsgs(t, b.Take(api.Msg{Kind: api.Ask, From: 1, Term: 1, Index: 9, Prev: 9}), api.Msg{Kind: api.Vote, To: 1, Term: 1})
		checkState(t, b, before)
	}
}

// P9.1: a candidate leads with the votes of more than half of the nodes, each counted once, its own among them.
func TestVotes(t *testing.T) {
	for size := 2; size <= api.MaxNodes; size++ {
		b := made(t, 0, size)
		b.Timeout()
		for from := 1; from < size; from++ {
			needed := from+1 > size/2
			checkMsgs(t, b.Take(api.Msg{Kind: api.Vote, From: from, Term: 1}))
			out := b.Take(api.Msg{Kind: api.Vote, From: from, Term: 1, Good: true})
			if (len(out) > 0) != needed || (b.Stand().Role == leader) != needed {
				t.Fatalf("size %d, %d votes: %v, %+v", size, from+1, out, b.Stand())
			}
			if needed {
				break
			}
			checkMsgs(t, b.Take(api.Msg{Kind: api.Vote, From: from, Term: 1, Good: true}))
			checkState(t, b, ballot.State{Term: 1, Role: candidate, Lead: -1})
		}
		before := b.Stand()
		checkMsgs(t, b.Take(api.Msg{Kind: api.Vote, From: size - 1, Term: 1, Good: true}))
		checkState(t, b, before)
	}
}

// P9.1: votes are nothing to a follower, one that stood for election in that term too.
func TestVoteForAFollower(t *testing.T) {
	b := made(t, 0, 2)
	checkMsgs(t, b.Take(api.Msg{Kind: api.Vote, From: 1, Term: 1, Good: true}))
	checkState(t, b, ballot.State{Term: 1, Vote: -1, Lead: -1})
	b.Timeout()
	b.Take(api.Msg{Kind: api.Feed, From: 1, Term: 2})
	checkMsgs(t, b.Take(api.Msg{Kind: api.Vote, From: 1, Term: 2, Good: true}))
	checkState(t, b, ballot.State{Term: 2, Vote: 0, Lead: 1})
}

// P9.1: a Feed or a Give makes a candidate a follower; its vote stays. A leader lets both by.
func TestFeedAndGiveByRole(t *testing.T) {
	for _, kind := range []int{api.Feed, api.Give} {
		b := loaded(t, 0, 3, known())
		b.Timeout()
		checkMsgs(t, b.Take(api.Msg{Kind: kind, From: 2, Term: 7, Index: 4, Prev: 3}), api.Msg{Kind: api.Fed, To: 2, Term: 7, Index: 4, Good: true})
		checkState(t, b, ballot.State{Term: 7, Lead: 2, Base: 4, Last: 9, Commit: 4})

		b = led(t, 3, known())
		before := b.Stand()
		checkMsgs(t, b.Take(api.Msg{Kind: kind, From: 2, Term: 7, Index: 10, Prev: 7, Commit: 12, List: entries(7, 7), Snap: "snap"}))
		checkState(t, b, before)
		checkNoDelta(t, b)
	}
}

// P9.1: a Feed of what is committed is answered with how far it goes, whatever its terms are.
func TestFeedOfWhatIsCommitted(t *testing.T) {
	for _, x := range []struct{ index, many int }{{7, 0}, {0, 0}, {0, 7}, {3, 0}, {4, 0}, {4, 3}, {5, 2}, {2, 4}, {6, 1}} {
		b := ahead(t, 7)
		before := b.Stand()
		list := make([]api.Entry, x.many)
		checkMsgs(t, b.Take(api.Msg{Kind: api.Feed, From: 1, Term: 6, Index: x.index, Prev: 99, Commit: 9, List: list}),
			api.Msg{Kind: api.Fed, To: 1, Term: 6, Index: x.index + x.many, Good: true})
		checkState(t, b, before)
		checkLog(t, b, 4, known().List...)
		checkNoDelta(t, b)
	}
}

// P9.1: a Feed behind an entry that isn't there, or is of another term, is answered with how far the logs may be the same.
func TestFeedThatDoesNotFit(t *testing.T) {
	for _, x := range []struct{ commit, index, prev, want int }{
		{4, 10, 6, 9}, {4, 11, 6, 9}, {4, mostSent, 6, 9}, {4, 9, 5, 8}, {4, 9, 7, 8}, {4, 7, 5, 6}, {4, 5, 6, 4}, {4, 4, 2, 3}, {4, 4, 4, 3}, {7, 7, 5, 6}, {7, 8, 5, 7}, {7, 10, 6, 9},
	} {
		b := ahead(t, x.commit)
		before := b.Stand()
		before.Lead = 2
		checkMsgs(t, b.Take(api.Msg{Kind: api.Feed, From: 2, Term: 6, Index: x.index, Prev: x.prev, Commit: 9, List: entries(6, 6)}),
			api.Msg{Kind: api.Fed, To: 2, Term: 6, Index: x.want})
		checkState(t, b, before)
		checkLog(t, b, 4, known().List...)
		checkNoDelta(t, b)
	}
}

// P9.1: behind no entry at all a Feed fits if its Prev is 0; else not even the base is the same.
func TestFeedOfAnEmptyLog(t *testing.T) {
	b := made(t, 0, 3)
	checkMsgs(t, b.Take(api.Msg{Kind: api.Feed, From: 1, Term: 2, Prev: 1, List: entries(2)}), api.Msg{Kind: api.Fed, To: 1, Term: 2, Index: -1})
	checkLog(t, b, 0)
	checkMsgs(t, b.Take(api.Msg{Kind: api.Feed, From: 1, Term: 2, Index: 1, Prev: 0, List: entries(2)}), api.Msg{Kind: api.Fed, To: 1, Term: 2})
	checkLog(t, b, 0)
	checkMsgs(t, b.Take(api.Msg{Kind: api.Feed, From: 1, Term: 2, List: entries(2)}), api.Msg{Kind: api.Fed, To: 1, Term: 2, Index: 1, Good: true})
	checkLog(t, b, 0, entries(2)...)
}

// P9.1: entries of a Feed take the place of those of another term and of all behind these, and stand behind the last; others stay.
func TestFeedPutsEntries(t *testing.T) {
	old := known().List
	for _, x := range []struct {
		name          string
		commit, index int
		prev          int
		list          []api.Entry
		want          []api.Entry
		from          int // of the delta; 0: there is none
	}{
		{"behind the last", 4, 9, 6, entries(6, 6), append(old[:5:5], entries(6, 6)...), 10},
		{"nothing", 4, 9, 6, nil, old, 0},
		{"the same", 4, 4, 3, old, old, 0},
		{"some of the same", 4, 6, 5, old[2:4], old, 0},
		{"the same terms, other texts", 4, 5, 5, entries(5, 6, 6), old, 0},
		{"the same and more", 4, 7, 6, append(old[3:5:5], entries(6)...), append(old[:5:5], entries(6)...), 10},
		{"another first", 4, 4, 3, entries(6), entries(6), 5},
		{"another in the middle", 4, 5, 5, entries(5, 7), append(old[:2:2], entries(5, 7)[1:]...), 7},
		{"another, with the same terms behind it", 4, 4, 3, entries(4, 5, 6), entries(4, 5, 6), 5},
		{"a lesser term", 4, 8, 6, entries(1), append(old[:4:4], entries(1)...), 9},
		{"passed over in part", 7, 5, 99, entries(1, 1, 7, 8), append(old[:3:3], entries(1, 1, 7, 8)[2:]...), 8},
		{"passed over, the rest the same", 7, 5, 99, entries(1, 1, 6), old, 0},
		{"from ahead of the base", 5, 2, 99, entries(1, 1, 1, 7), append(old[:1:1], entries(1, 1, 1, 7)[3:]...), 6},
		{"from ahead of the base, all of it up to it passed over", 4, 3, 99, entries(1, 9), entries(1, 9)[1:], 5},
		{"behind what is committed", 7, 7, 6, entries(7), append(old[:3:3], entries(7)...), 8},
		{"any term at all", 4, 9, 6, entries(math.MinInt, math.MaxInt, 0, -1), append(old[:5:5], entries(math.MinInt, math.MaxInt, 0, -1)...), 10},
	} {
		b := ahead(t, x.commit)
		end := x.index + len(x.list)
		checkMsgs(t, b.Take(api.Msg{Kind: api.Feed, From: 2, Term: 6, Index: x.index, Prev: x.prev, List: x.list}),
			api.Msg{Kind: api.Fed, To: 2, Term: 6, Index: end, Good: true})
		t.Log(x.name)
		checkLog(t, b, 4, x.want...)
		checkState(t, b, ballot.State{Term: 6, Vote: -1, Lead: 2, Base: 4, Last: 4 + len(x.want), Commit: x.commit})
		if x.from == 0 {
			checkNoDelta(t, b)
			continue
		}
		checkDelta(t, b, api.Delta{Term: 6, Vote: -1, From: x.from, List: x.want[x.from-5:]})
	}
}

// P9.1: more than MaxFeed entries in a Feed are taken too.
func TestFeedOfMany(t *testing.T) {
	b := made(t, 0, 2)
	list := entries(make([]int, 100)...)
	checkMsgs(t, b.Take(api.Msg{Kind: api.Feed, From: 1, Term: 1, Commit: 99, List: list}), api.Msg{Kind: api.Fed, To: 1, Term: 1, Index: 100, Good: true})
	checkLog(t, b, 0, list...)
	checkState(t, b, ballot.State{Term: 1, Vote: -1, Lead: 1, Last: 100, Commit: 99})
}

// P9.1: a follower commits up to the lesser one of Commit and what was fed, never less than it did.
func TestFeedCommits(t *testing.T) {
	for _, x := range []struct{ commit, index, many, told, want int }{
		{4, 9, 0, 7, 7}, {4, 9, 0, 9, 9}, {4, 9, 0, 20, 9}, {4, 9, 2, 20, 11}, {4, 9, 2, 10, 10}, {4, 7, 0, 9, 7}, {4, 7, 1, 9, 8}, {4, 7, 1, 4, 4}, {4, 7, 1, 0, 4},
		{7, 8, 0, 9, 8}, {7, 7, 1, 3, 7}, {7, 5, 3, 20, 8}, {7, 6, 3, 8, 8}, {4, 9, 0, mostSent, 9},
	} {
		b := ahead(t, x.commit)
		prev := 6
		terms := []int{6, 6, 6}[:x.many]
		b.Take(api.Msg{Kind: api.Feed, From: 1, Term: 6, Index: x.index, Prev: prev, Commit: x.told, List: entries(terms...)})
		if s := b.Stand(); s.Commit != x.want {
			t.Fatalf("%+v: %+v", x, s)
		}
	}
}

// fives answers a leader of the term 7 with entries 5 to 12 behind the base 4, the last ones of its own term, and nothing sent yet.
func fives(t *testing.T, size int) (*ballot.Ballot, []api.Entry) {
	t.Helper()
	b := led(t, size, known())
	b.Propose(1, 1, "a")
	b.Propose(2, 2, "b")
	b.Delta()
	return b, append(known().List, api.Entry{Term: 7}, api.Entry{Term: 7, At: 1, Born: 1, Text: "a"}, api.Entry{Term: 7, At: 2, Born: 2, Text: "b"})
}

// P9.1: a leader commits what a majority has, if it is of its own term, and then feeds all; who matches further and has more to come is fed behind that.
func TestFedGood(t *testing.T) {
	b, all := fives(t, 3)
	feed := func(to, next, commit int) api.Msg {
		prev := 3
		if next > 5 {
			prev = all[next-6].Term
		}
		return api.Msg{Kind: api.Feed, To: to, Term: 7, Index: next - 1, Prev: prev, Commit: commit, List: all[next-5 : min(next+3, 8)]}
	}
	fed := func(from, index int) []api.Msg {
		return b.Take(api.Msg{Kind: api.Fed, From: from, Term: 7, Index: index, Good: true})
	}
	// An older term's entry isn't committed by being at a majority.
	checkMsgs(t, fed(1, 9), feed(1, 10, 4))
	checkMsgs(t, fed(1, 9))
	checkState(t, b, ballot.State{Term: 7, Role: leader, Base: 4, Last: 12, Commit: 4})
	checkMsgs(t, fed(1, 10), feed(1, 11, 10), feed(2, 10, 10), feed(1, 11, 10))
	checkState(t, b, ballot.State{Term: 7, Role: leader, Base: 4, Last: 12, Commit: 10})
	// Of another node less than that changes nothing for what is committed.
	checkMsgs(t, fed(2, 6), feed(2, 7, 10))
	checkMsgs(t, fed(1, 7))
	checkMsgs(t, fed(1, -1))
	checkMsgs(t, b.Beat(), feed(1, 11, 10), feed(2, 7, 10))
	// Up to its last and beyond: no more than the leader has.
	checkMsgs(t, fed(2, 99), feed(1, 11, 12), feed(2, 13, 12))
	checkMsgs(t, fed(1, mostSent))
	checkState(t, b, ballot.State{Term: 7, Role: leader, Base: 4, Last: 12, Commit: 12})
	checkMsgs(t, b.Beat(), feed(1, 13, 12), feed(2, 13, 12))
	checkNoDelta(t, b)
}

// P9.1: what is committed is what more than half of the nodes have, the leader among them.
func TestSettleByMajority(t *testing.T) {
	for size := 2; size <= api.MaxNodes; size++ {
		b, _ := fives(t, size)
		for from := 1; from < size; from++ {
			want := 4
			if from+1 > size/2 {
				want = 11
			}
			b.Take(api.Msg{Kind: api.Fed, From: from, Term: 7, Index: 11, Good: true})
			if s := b.Stand(); s.Commit != want {
				t.Fatalf("size %d, %d nodes have it: %+v, not %d", size, from+1, s, want)
			}
			b.Take(api.Msg{Kind: api.Fed, From: from, Term: 7, Index: 11, Good: true})
		}
	}
}

// P9.1: the greatest number at a majority counts, when nodes have unlike many.
func TestSettleUnlikeMany(t *testing.T) {
	b, _ := fives(t, 5)
	for _, x := range []struct{ from, index, want int }{{1, 12, 4}, {2, 10, 10}, {3, 11, 11}, {4, 12, 12}, {2, 12, 12}} {
		b.Take(api.Msg{Kind: api.Fed, From: x.from, Term: 7, Index: x.index, Good: true})
		if s := b.Stand(); s.Commit != x.want {
			t.Fatalf("%+v: %+v", x, s)
		}
	}
}

// P9.1: an entry of the leader's term is committed though one of another term, which isn't, lies behind it at a majority.
func TestSettleBehindOtherTerms(t *testing.T) {
	b := led(t, 2, whole(6, 0, 0, 7, 9))
	checkState(t, b, ballot.State{Term: 7, Role: leader, Last: 3})
	b.Take(api.Msg{Kind: api.Fed, From: 1, Term: 7, Index: 2, Good: true})
	checkState(t, b, ballot.State{Term: 7, Role: leader, Last: 3, Commit: 1})
}

// P9.1: who isn't as far as was thought is fed from further ahead: at least one entry, but never from what it is known to have.
func TestFedNotGood(t *testing.T) {
	b, all := fives(t, 3)
	fed := func(index int) []api.Msg { return b.Take(api.Msg{Kind: api.Fed, From: 2, Term: 7, Index: index}) }
	feed := func(next, prev int) api.Msg {
		return api.Msg{Kind: api.Feed, To: 2, Term: 7, Index: next - 1, Prev: prev, Commit: 4, List: all[next-5 : min(next+3, 8)]}
	}
	give := api.Msg{Kind: api.Give, To: 2, Term: 7, Index: 4, Prev: 3, Snap: "up to 4"}
	checkMsgs(t, fed(20), feed(9, 6)) // its next was 10
	checkMsgs(t, fed(8), feed(8, 6))
	checkMsgs(t, fed(5), feed(6, 5))
	checkMsgs(t, fed(4), feed(5, 3))
	checkMsgs(t, fed(4), give)
	checkMsgs(t, fed(-1), give)
	checkMsgs(t, fed(mostSent), give)
	checkMsgs(t, b.Take(api.Msg{Kind: api.Fed, From: 2, Term: 7, Index: 6, Good: true}), feed(7, 5))
	for _, index := range []int{mostSent, 6, 5, 0, -1} {
		checkMsgs(t, fed(index), feed(7, 5))
	}
	checkState(t, b, ballot.State{Term: 7, Role: leader, Base: 4, Last: 12, Commit: 4})
	checkMsgs(t, b.Beat(), api.Msg{Kind: api.Feed, To: 1, Term: 7, Index: 9, Prev: 6, Commit: 4, List: all[5:]}, feed(7, 5))
	checkNoDelta(t, b)
}

// P9.1: an Index of -1 brings a node's next to the first entry at once.
func TestFedToTheFirst(t *testing.T) {
	for _, index := range []int{-1, 0} {
		b := led(t, 2, whole(6, 0, 0, 5, 6))
		checkMsgs(t, b.Take(api.Msg{Kind: api.Fed, From: 1, Term: 7, Index: index}),
			api.Msg{Kind: api.Feed, To: 1, Term: 7, List: append(entries(5, 6), api.Entry{Term: 7})})
	}
}

// P9.1: a Good Fed that says no more than is known makes the next entry the one behind that.
func TestFedGoodOfLittle(t *testing.T) {
	for _, index := range []int{-1, 0} {
		b := led(t, 2, whole(6, 0, 0, 5, 6))
		checkMsgs(t, b.Take(api.Msg{Kind: api.Fed, From: 1, Term: 7, Index: index, Good: true}))
		checkMsgs(t, b.Beat(), api.Msg{Kind: api.Feed, To: 1, Term: 7, List: append(entries(5, 6), api.Entry{Term: 7})})
	}
}

// P9.1: who doesn't lead lets Fed by.
func TestFedOfOthers(t *testing.T) {
	asCandidate := loaded(t, 0, 3, known())
	asCandidate.Timeout()
	asCandidate.Delta()
	for _, b := range []*ballot.Ballot{ahead(t, 6), asCandidate} {
		before := b.Stand()
		for _, good := range []bool{false, true} {
			checkMsgs(t, b.Take(api.Msg{Kind: api.Fed, From: 1, Term: before.Term, Index: 9, Good: good}))
		}
		checkState(t, b, before)
		checkNoDelta(t, b)
	}
}

// P9.1, P9.2: whose next entry is in the snapshot alone is given that, also when it matches further than it did.
func TestGiveBehindACut(t *testing.T) {
	b, all := fives(t, 3)
	b.Take(api.Msg{Kind: api.Fed, From: 2, Term: 7, Index: 5})
	b.Take(api.Msg{Kind: api.Fed, From: 1, Term: 7, Index: 12, Good: true})
	if !b.Cut(7, "seven") {
		t.Fatal("Cut(7): false")
	}
	give := api.Msg{Kind: api.Give, To: 2, Term: 7, Index: 7, Prev: 6, Snap: "seven"}
	none := api.Msg{Kind: api.Feed, To: 1, Term: 7, Index: 12, Prev: 7, Commit: 12}
	checkMsgs(t, b.Beat(), none, give)
	checkMsgs(t, b.Take(api.Msg{Kind: api.Fed, From: 2, Term: 7, Index: 5, Good: true}), give)
	checkMsgs(t, b.Take(api.Msg{Kind: api.Fed, From: 2, Term: 7, Index: 6, Good: true}), give)
	feed := api.Msg{Kind: api.Feed, To: 2, Term: 7, Index: 7, Prev: 6, Commit: 12, List: all[3:]}
	checkMsgs(t, b.Take(api.Msg{Kind: api.Fed, From: 2, Term: 7, Index: 7, Good: true}), feed)
	checkMsgs(t, b.Beat(), none, feed)
}

// P9.1: a Give of what is committed changes nothing but whom the ballot follows.
func TestGiveOfWhatIsCommitted(t *testing.T) {
	for _, index := range []int{0, 3, 4, 5, 6} {
		b := ahead(t, 6)
		checkMsgs(t, b.Take(api.Msg{Kind: api.Give, From: 2, Term: 6, Index: index, Prev: 1, Snap: "snap"}), api.Msg{Kind: api.Fed, To: 2, Term: 6, Index: index, Good: true})
		checkState(t, b, ballot.State{Term: 6, Vote: -1, Lead: 2, Base: 4, Last: 9, Commit: 6})
		checkLog(t, b, 4, known().List...)
		checkNoDelta(t, b)
		if b.Snap() != "up to 4" {
			t.Fatalf("Snap: %q", b.Snap())
		}
	}
}

// P9.1: a Give is the ballot's base; what is behind it stays, if it goes on from the same entry.
func TestGive(t *testing.T) {
	old := known().List
	for _, x := range []struct {
		index, prev int
		rest        []api.Entry
	}{
		{7, 6, old[3:]}, {7, 5, nil}, {8, 6, old[4:]}, {9, 6, nil}, {9, 5, nil}, {10, 6, nil}, {20, 6, nil}, {mostSent, mostSent, nil}, {7, 0, nil},
	} {
		b := ahead(t, 6)
		checkMsgs(t, b.Take(api.Msg{Kind: api.Give, From: 2, Term: 6, Index: x.index, Prev: x.prev, Snap: "snap"}), api.Msg{Kind: api.Fed, To: 2, Term: 6, Index: x.index, Good: true})
		checkState(t, b, ballot.State{Term: 6, Vote: -1, Lead: 2, Base: x.index, Last: x.index + len(x.rest), Commit: x.index})
		checkLog(t, b, x.index, x.rest...)
		if b.Snap() != "snap" {
			t.Fatalf("Snap: %q", b.Snap())
		}
		checkDelta(t, b, api.Delta{Term: 6, Vote: -1, Whole: true, Base: x.index, BaseTerm: x.prev, Snap: "snap", From: x.index + 1, List: x.rest})
		// The base's term is what the next Feed is held against.
		if len(x.rest) == 0 && x.index < mostSent {
			checkMsgs(t, b.Take(api.Msg{Kind: api.Feed, From: 2, Term: 6, Index: x.index, Prev: x.prev + 1, List: entries(6)}), api.Msg{Kind: api.Fed, To: 2, Term: 6, Index: x.index - 1})
			checkMsgs(t, b.Take(api.Msg{Kind: api.Feed, From: 2, Term: 6, Index: x.index, Prev: x.prev, List: entries(6)}), api.Msg{Kind: api.Fed, To: 2, Term: 6, Index: x.index + 1, Good: true})
		}
	}
}
