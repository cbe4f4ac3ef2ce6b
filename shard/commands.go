package shard

import (
	"slices"

	"lintel/api"
)

// Do does a command, at being the clock of whoever wrote it down. ErrNil, ErrArg, and the errors of commands.
func (s *Shard) Do(at int, c api.Command) api.Result {
	if s == nil {
		return api.Result{Err: api.ErrNil}
	}
	if s.store == nil {
		*s = *New()
	}
	kinds := map[int]func(*Shard, int, api.Command) api.Result{
		api.Prepare: (*Shard).prepare,
		api.Commit:  (*Shard).commit,
		api.Abort:   (*Shard).abort,
		api.Resolve: (*Shard).resolve,
	}
	do, there := kinds[c.Kind]
	if !there {
		return api.Result{Err: api.ErrArg}
	}
	return do(s, at, c)
}

// prepare gives a transaction its lock. ErrOver, ErrBusy, ErrStale.
func (s *Shard) prepare(_ int, c api.Command) api.Result {
	if s.isOver(c.Txn) {
		return api.Result{Err: api.ErrOver}
	}
	if s.lockOf(c.Txn) >= 0 {
		return api.Result{Ts: s.high}
	}
	if no := s.against(c); no.Err != api.OK {
		return no
	}
	s.locks = append(s.locks, newLock(c))
	return api.Result{Ts: s.high, New: true}
}

// against answers what stands against a lock, if something does.
func (s *Shard) against(c api.Command) api.Result {
	for _, r := range c.Reads {
		if no := s.busy(func(l api.Lock) bool { return holdsIn(l, r.Span) }); no.Err != api.OK {
			return no
		}
		if s.stale(r) {
			return api.Result{Err: api.ErrStale}
		}
	}
	for _, w := range c.Writes {
		if no := s.busy(func(l api.Lock) bool { return holds(l, w.Key) || covers(l, w.Key) }); no.Err != api.OK {
			return no
		}
	}
	return api.Result{}
}

// busy answers ErrBusy with the first lock that meets what is asked for, if one does.
func (s *Shard) busy(meets func(api.Lock) bool) api.Result {
	i := slices.IndexFunc(s.locks, meets)
	if i < 0 {
		return api.Result{}
	}
	return api.Result{Err: api.ErrBusy, Txn: s.locks[i].Txn, Until: s.locks[i].Until}
}

// stale tells whether a span isn't as it was seen.
func (s *Shard) stale(r api.Read) bool {
	return !slices.EqualFunc(s.Span(r.Span), r.Seen, func(h api.Hit, seen api.Stamp) bool {
		return api.Stamp{Key: h.Key, Ts: h.Ts} == seen
	})
}

// commit makes the record of a transaction, a time, if that isn't too late. ErrOver, ErrLate.
func (s *Shard) commit(at int, c api.Command) api.Result {
	if ts, there := s.Record(c.Txn); there {
		if ts == 0 {
			return api.Result{Err: api.ErrOver}
		}
		return api.Result{Ts: ts}
	}
	// A time of 0 would be the record of one that was aborted.
	ts := max(c.Min, at, 1)
	if ts > c.Until {
		s.enter(api.Record{Txn: c.Txn})
		return api.Result{Err: api.ErrLate, New: true}
	}
	s.enter(api.Record{Txn: c.Txn, Ts: ts})
	return api.Result{Ts: ts, New: true}
}

// abort makes the record of a transaction 0. ErrOver.
func (s *Shard) abort(_ int, c api.Command) api.Result {
	ts, there := s.Record(c.Txn)
	if !there {
		s.enter(api.Record{Txn: c.Txn})
		return api.Result{New: true}
	}
	if ts != 0 {
		return api.Result{Err: api.ErrOver, Ts: ts}
	}
	return api.Result{}
}

// resolve lets a transaction be over here: its writes hold from Ts on, or, if that is not above 0, are forgotten.
func (s *Shard) resolve(_ int, c api.Command) api.Result {
	if s.isOver(c.Txn) {
		return api.Result{}
	}
	s.end(c.Txn)
	writes := s.unlock(c.Txn)
	if c.Ts > 0 {
		s.write(writes, c.Ts)
		s.high = max(s.high, c.Ts)
	}
	return api.Result{New: true}
}

func (s *Shard) write(writes []api.Write, ts int) {
	for _, w := range writes {
		// What the store refuses is let be: the key has a version that is as new.
		s.store.Put(w.Key, api.Version{Ts: ts, Value: w.Value, Dead: w.Dead})
	}
}

// unlock takes a transaction's lock away, if it has one, and answers what that would have written.
func (s *Shard) unlock(t api.Tid) []api.Write {
	i := s.lockOf(t)
	if i < 0 {
		return nil
	}
	writes := s.locks[i].Writes
	s.locks = slices.Delete(s.locks, i, i+1)
	return writes
}
