package deal

import (
	"cmp"
	"slices"

	"lintel/api"
	"lintel/split"
)

// A part is what a transaction reads and writes in a shard.
type part struct {
	shard  int
	reads  []api.Read
	writes []api.Write
}

// partsOf answers the parts of an effect, rising by shard. There is one at least: whoever reads and writes nothing needs a home, too.
func partsOf(e api.Effect, s *split.Split) []part {
	var parts []part
	in := func(shard int) *part {
		i, there := slices.BinarySearchFunc(parts, shard, func(p part, shard int) int { return cmp.Compare(p.shard, shard) })
		if !there {
			parts = slices.Insert(parts, i, part{shard: shard})
		}
		return &parts[i]
	}
	for _, r := range e.Reads {
		for _, own := range s.Parts(r.Span) {
			p := in(own.Shard)
			p.reads = append(p.reads, api.Read{Span: own.Span, Seen: seenIn(own.Span, r.Seen)})
		}
	}
	for _, w := range e.Writes {
		p := in(s.Find(w.Key))
		p.writes = append(p.writes, w)
	}
	if len(parts) == 0 {
		return []part{{}}
	}
	return parts
}

// seenIn answers those that were seen in a span, in new memory.
func seenIn(p api.Span, seen []api.Stamp) []api.Stamp {
	var list []api.Stamp
	for _, x := range seen {
		if p.From <= x.Key && x.Key < p.To {
			list = append(list, x)
		}
	}
	return list
}

func cloneReads(list []api.Read) []api.Read {
	copies := slices.Clone(list)
	for i, r := range list {
		copies[i].Seen = slices.Clone(r.Seen)
	}
	return copies
}
