package shard

import (
	"slices"

	"lintel/api"
)

// has tells whether a span has a key.
func has(p api.Span, key string) bool { return p.From <= key && key < p.To }

// holds tells whether a lock writes a key.
func holds(l api.Lock, key string) bool {
	return slices.ContainsFunc(l.Writes, func(w api.Write) bool { return w.Key == key })
}

// holdsIn tells whether a lock writes a key of a span.
func holdsIn(l api.Lock, p api.Span) bool {
	return slices.ContainsFunc(l.Writes, func(w api.Write) bool { return has(p, w.Key) })
}

// covers tells whether a lock has read a span that has a key.
func covers(l api.Lock, key string) bool {
	return slices.ContainsFunc(l.Spans, func(p api.Span) bool { return has(p, key) })
}

// lockOf answers where among the locks a transaction's is; -1: it has none.
func (s *Shard) lockOf(t api.Tid) int {
	return slices.IndexFunc(s.locks, func(l api.Lock) bool { return l.Txn == t })
}

// newLock answers the lock that a Prepare asks for.
func newLock(c api.Command) api.Lock {
	l := api.Lock{Txn: c.Txn, Home: c.Home, Until: c.Until, Writes: slices.Clone(c.Writes)}
	for _, r := range c.Reads {
		l.Spans = append(l.Spans, r.Span)
	}
	return l
}

func cloneLocks(list []api.Lock) []api.Lock {
	copies := slices.Clone(list)
	for i, l := range list {
		copies[i].Spans, copies[i].Writes = slices.Clone(l.Spans), slices.Clone(l.Writes)
	}
	return copies
}
