package ballot

import (
	"slices"

	"lintel/api"
)

// change is what a ballot must keep since it was last asked for it.
type change struct {
	touched bool
	whole   bool // the base is another one
	from    int  // the least number at which the log was changed; 0: it wasn't
}

// Delta answers what was touched of all that must be kept since it was asked for last, and whether anything was.
func (b *Ballot) Delta() (api.Delta, bool) {
	if b == nil || !b.since.touched {
		return api.Delta{}, false
	}
	d := api.Delta{Term: b.Term, Vote: b.Vote}
	switch {
	case b.since.whole:
		d.Whole, d.Base, d.BaseTerm, d.Snap, d.From = true, b.Base, b.baseTerm, b.snap, b.Base+1
	case b.since.from > 0:
		d.From = b.since.from
	default:
		d.From = b.Last + 1
	}
	d.List = b.copied(d.From, b.Last)
	b.since = change{}
	return d, true
}

// fits answers whether a delta may follow those that made the ballot.
func (b *Ballot) fits(d api.Delta) bool {
	if !within(d.Term, 0, mostKept) || d.Vote != nobody && !b.isNode(d.Vote) {
		return false
	}
	if d.Whole {
		return within(d.Base, 0, mostKept) && within(d.BaseTerm, 0, mostKept)
	}
	return within(d.From, b.Base+1, b.Last+1)
}

// redo brings a ballot to where a delta that fits says.
func (b *Ballot) redo(d api.Delta) {
	b.Term, b.Vote = d.Term, d.Vote
	if d.Whole {
		b.rebase(d.Base, d.BaseTerm, d.Snap, slices.Clone(d.List))
		return
	}
	b.put(d.From, d.List)
}

// has answers whether the entry i, or the base, is there and of that term.
func (b *Ballot) has(i, term int) bool {
	return b.Base <= i && i <= b.Last && b.termOf(i) == term
}

// termOf answers the term of an entry that is there, or of the base.
func (b *Ballot) termOf(i int) int {
	if i == b.Base {
		return b.baseTerm
	}
	return b.entries[i-b.Base-1].Term
}

// copied answers the entries from one to another, which is not below the one ahead of it, in memory of their own.
func (b *Ballot) copied(from, to int) []api.Entry {
	return append([]api.Entry(nil), b.entries[from-b.Base-1:to-b.Base]...)
}

// put lays entries in the place of the entry i and of all behind it.
func (b *Ballot) put(i int, list []api.Entry) {
	kept := slices.Delete(b.entries, i-b.Base-1, len(b.entries))
	b.entries = append(kept, list...)
	b.Last = b.Base + len(b.entries)
	if b.since.from == 0 || i < b.since.from {
		b.since.from = i
	}
	b.since.touched = true
}

// behind answers the entries behind i, and lets go of those up to it.
func (b *Ballot) behind(i int) []api.Entry {
	n := i - b.Base
	// The list is moved on, not copied: its front would hold the texts in memory.
	clear(b.entries[:n])
	return b.entries[n:]
}

// rebase gives the log another base, of a term, with a snapshot up to it, and all entries behind it, whose memory is the ballot's own.
func (b *Ballot) rebase(base, term int, snap string, entries []api.Entry) {
	b.Base, b.baseTerm, b.snap, b.entries = base, term, snap, entries
	b.Last = base + len(entries)
	b.Commit = max(b.Commit, base)
	b.since.touched, b.since.whole = true, true
}
