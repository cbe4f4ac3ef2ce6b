package ballot

import "lintel/api"

// takers answers what is done with a message of the ballot's own term, by its kind.
func takers() [api.Give + 1]func(*Ballot, api.Msg) []api.Msg {
	return [...]func(*Ballot, api.Msg) []api.Msg{
		api.Ask:  (*Ballot).takeAsk,
		api.Vote: (*Ballot).takeVote,
		api.Feed: (*Ballot).takeFeed,
		api.Fed:  (*Ballot).takeFed,
		api.Give: (*Ballot).takeGive,
	}
}

// Take lets a ballot take a message, and answers the messages that go.
func (b *Ballot) Take(m api.Msg) []api.Msg {
	if b == nil || b.letsBy(m) {
		return nil
	}
	if m.Term > b.Term {
		b.enter(m.Term, nobody, follower)
	}
	if m.Term < b.Term {
		return b.refuse(m)
	}
	return takers()[m.Kind](b, m)
}

// letsBy answers whether a message is none that another node of the group could have sent this one.
func (b *Ballot) letsBy(m api.Msg) bool {
	if m.To != b.id || m.From == b.id || !b.isNode(m.From) || m.Kind < api.Ask || m.Kind > api.Give {
		return true
	}
	least := 0
	if m.Kind == api.Fed {
		least = -1 // not even the base is the same
	}
	return !within(m.Term, 1, mostSent) || !within(m.Index, least, mostSent) ||
		!within(m.Prev, 0, mostSent) || !within(m.Commit, 0, mostSent)
}

// refuse answers a message of an older term, so that its sender learns of this one.
func (b *Ballot) refuse(m api.Msg) []api.Msg {
	switch m.Kind {
	case api.Ask:
		return b.voted(m.From, false)
	case api.Feed, api.Give:
		return b.fed(m.From, false, b.Last)
	}
	return nil
}

func (b *Ballot) voted(to int, good bool) []api.Msg {
	m := b.message(api.Vote, to)
	m.Good = good
	return []api.Msg{m}
}

func (b *Ballot) fed(to int, good bool, index int) []api.Msg {
	m := b.message(api.Fed, to)
	m.Good, m.Index = good, index
	return []api.Msg{m}
}

func (b *Ballot) takeAsk(m api.Msg) []api.Msg {
	free := b.Vote == nobody || b.Vote == m.From
	term := b.termOf(b.Last)
	good := free && (m.Prev > term || m.Prev == term && m.Index >= b.Last)
	if good {
		b.Vote = m.From
		b.since.touched = true
	}
	return b.voted(m.From, good)
}

func (b *Ballot) takeVote(m api.Msg) []api.Msg {
	if b.Role != candidate || !m.Good {
		return nil
	}
	b.votes[m.From] = true
	count := 0
	for _, has := range b.votes {
		if has {
			count++
		}
	}
	if 2*count <= b.size {
		return nil
	}
	return b.lead()
}

// follow makes a ballot a follower of the leader of its term.
func (b *Ballot) follow(lead int) { b.Role, b.Lead = follower, lead }

func (b *Ballot) takeFeed(m api.Msg) []api.Msg {
	if b.Role == leader {
		return nil
	}
	b.follow(m.From)
	end := m.Index + len(m.List)
	if end <= b.Commit {
		return b.fed(m.From, true, end)
	}
	if m.Index >= b.Commit && !b.has(m.Index, m.Prev) {
		return b.fed(m.From, false, min(b.Last, m.Index-1))
	}
	// What is committed is the same in every leader's log, and isn't looked at again.
	start := max(m.Index, b.Commit)
	b.adopt(start, m.List[start-m.Index:])
	b.Commit = max(b.Commit, min(m.Commit, end))
	return b.fed(m.From, true, end)
}

// adopt makes a leader's entries those behind the entry start, which is there. Entries that are there already stay, with all behind them: the message may be older than these.
func (b *Ballot) adopt(start int, list []api.Entry) {
	for k, e := range list {
		if i := start + 1 + k; !b.has(i, e.Term) {
			b.put(i, list[k:])
			return
		}
	}
}

func (b *Ballot) takeFed(m api.Msg) []api.Msg {
	if b.Role != leader {
		return nil
	}
	p := &b.peers[m.From]
	if !m.Good {
		p.next = max(min(m.Index+1, p.next-1), p.match+1)
		return []api.Msg{b.feed(m.From)}
	}
	before := p.match
	p.match = max(before, min(m.Index, b.Last))
	p.next = p.match + 1
	out := b.settle()
	if p.match > before && p.next <= b.Last {
		out = append(out, b.feed(m.From))
	}
	return out
}

func (b *Ballot) takeGive(m api.Msg) []api.Msg {
	if b.Role == leader {
		return nil
	}
	b.follow(m.From)
	if m.Index > b.Commit {
		var rest []api.Entry
		if b.has(m.Index, m.Prev) {
			rest = b.behind(m.Index)
		}
		b.rebase(m.Index, m.Prev, m.Snap, rest)
	}
	return b.fed(m.From, true, m.Index)
}
