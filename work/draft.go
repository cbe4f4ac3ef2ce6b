package work

import (
	"slices"

	"lintel/api"
	"lintel/rows"
)

// A draft is what a piece has read and written so far.
type draft struct {
	reader api.Reader
	seen   []look
	writes []api.Write
}

// A look is what the reader showed of a span.
type look struct {
	span api.Span
	hits []api.Hit
}

// behind answers the least key above one.
func behind(key string) string { return key + "\x00" }

// first reads the first few hits of a span, and tells whether there are no more. What lies behind them isn't taken for read: others may write there meanwhile.
func (x *draft) first(p api.Span) ([]api.Hit, bool) {
	all := x.reader.Span(p)
	over := len(all) <= api.Chunk
	// The reader may take its list back as soon as it is asked again.
	hits := slices.Clone(all[:min(len(all), api.Chunk)])
	if !over {
		p.To = behind(hits[len(hits)-1].Key)
	}
	x.seen = append(x.seen, look{p, hits})
	return hits, over
}

// ask reads a span, once.
func (x *draft) ask(p api.Span) []api.Hit {
	at := slices.IndexFunc(x.seen, func(l look) bool { return l.span == p })
	if at < 0 {
		at = len(x.seen)
		x.seen = append(x.seen, look{p, slices.Clone(x.reader.Span(p))})
	}
	return x.seen[at].hits
}

// others tells whether an index has an entry of a value that is of another key than k.
func (x *draft) others(index int, v, k api.Value) bool {
	other := func(h api.Hit) bool {
		// Other keys than entries' may lie in the span, too: shorter or longer lists', or none's.
		have, _ := rows.Key(h.Key)
		return have != k && rows.Entry(index, v, have) == h.Key
	}
	return slices.ContainsFunc(x.ask(rows.Equal(index, v)), other)
}

// has tells whether a table has the row with a key value.
func (x *draft) has(table int, k api.Value) bool {
	key := rows.Row(table, k)
	isRow := func(h api.Hit) bool { return len(cellsOf(h)) > 0 }
	return slices.ContainsFunc(x.ask(api.Span{From: key, To: behind(key)}), isRow)
}

func (x *draft) write(w api.Write) { x.writes = append(x.writes, w) }

// reads answers what was read, in order, with the times that the reader showed.
func (x *draft) reads() []api.Read {
	var out []api.Read
	for _, l := range x.seen {
		next := api.Read{Span: l.span}
		for _, h := range l.hits {
			next.Seen = append(next.Seen, api.Stamp{Key: h.Key, Ts: h.Ts})
		}
		out = append(out, next)
	}
	return out
}
