package ballot

import (
	"slices"

	"lintel/api"
)

// lead makes a ballot a leader, with an entry of its own term: only behind such a one anything is committed.
func (b *Ballot) lead() []api.Msg {
	b.Role, b.Lead = leader, b.id
	for n := range b.size {
		b.peers[n] = peer{next: b.Last + 1}
	}
	return b.write(api.Entry{Term: b.Term})
}

// write puts an entry behind a leader's log and answers the messages that go.
func (b *Ballot) write(e api.Entry) []api.Msg {
	b.put(b.Last+1, []api.Entry{e})
	out := b.toOthers(b.feed)
	return append(out, b.settle()...)
}

// feed answers what a leader sends a node: entries from its next on, or the snapshot, if they are no more there.
func (b *Ballot) feed(to int) api.Msg {
	next := b.peers[to].next
	if next <= b.Base {
		m := b.message(api.Give, to)
		m.Index, m.Prev, m.Snap = b.Base, b.baseTerm, b.snap
		return m
	}
	m := b.message(api.Feed, to)
	m.Index, m.Prev, m.Commit = next-1, b.termOf(next-1), b.Commit
	m.List = b.copied(next, min(m.Index+api.MaxFeed, b.Last))
	return m
}

// settle commits what a leader may, and lets all others know, if that is more.
func (b *Ballot) settle() []api.Msg {
	// An entry of an older term may lie at a majority and yet be replaced: it is committed with one of this term alone.
	for i := b.agreed(); i > b.Commit; i-- {
		if b.termOf(i) == b.Term {
			b.Commit = i
			return b.toOthers(b.feed)
		}
	}
	return nil
}

// agreed answers the greatest number up to which a majority has the leader's log.
func (b *Ballot) agreed() int {
	var ends [api.MaxNodes]int
	for n := range b.size {
		ends[n] = b.peers[n].match
	}
	ends[b.id] = b.Last
	slices.Sort(ends[:b.size])
	return ends[(b.size-1)/2]
}
