package exec

import (
	"cmp"
	"slices"

	"lintel/api"
)

// A view is what a statement finds: what the reader shows, and over it what the statements ahead have written.
type view struct {
	reader api.Reader
	asked  map[api.Span]shown
	writes []api.Write // rising by key, of each what was written last
}

// shown is what the reader showed of a span, and how many others had been asked for ahead of it.
type shown struct {
	at   int
	hits []api.Hit
}

// ask answers what the reader shows of a span. It is asked once: so all statements go by what is told to have been read.
func (x *view) ask(p api.Span) []api.Hit {
	had, ok := x.asked[p]
	if !ok {
		// The reader may take its list back as soon as it is asked again.
		had = shown{len(x.asked), slices.Clone(x.reader.Span(p))}
		x.asked[p] = had
	}
	return had.hits
}

// find answers the hits of a span as they are now, rising by key.
func (x *view) find(p api.Span) []api.Hit {
	var out []api.Hit
	for _, h := range x.ask(p) {
		if _, written := x.place(h.Key); !written {
			out = append(out, h)
		}
	}
	from, _ := x.place(p.From)
	for _, w := range x.writes[from:] {
		if w.Key >= p.To {
			break
		}
		if !w.Dead {
			out = append(out, api.Hit{Key: w.Key, Value: w.Value})
		}
	}
	slices.SortStableFunc(out, func(a, b api.Hit) int { return cmp.Compare(a.Key, b.Key) })
	return out
}

// some answers what find does, or ErrMany, if a statement may not look at so much in one go.
func (x *view) some(p api.Span) ([]api.Hit, api.Errno) {
	hits := x.find(p)
	if len(hits) > api.MaxRows {
		return nil, api.ErrMany
	}
	return hits, api.OK
}

// write puts what is written over what was written of the same keys.
func (x *view) write(list []api.Write) {
	for _, w := range list {
		at, written := x.place(w.Key)
		if !written {
			x.writes = slices.Insert(x.writes, at, w)
		}
		x.writes[at] = w
	}
}

// place answers where what was written of a key stands, or would stand, and whether it does.
func (x *view) place(key string) (int, bool) {
	return slices.BinarySearchFunc(x.writes, key, func(w api.Write, key string) int { return cmp.Compare(w.Key, key) })
}

// reads answers what was read. Each span knows its place: so it doesn't matter in which order the map is gone through.
func (x *view) reads() []api.Read {
	out := make([]api.Read, len(x.asked))
	for p, had := range x.asked {
		var seen []api.Stamp
		for _, h := range had.hits {
			seen = append(seen, api.Stamp{Key: h.Key, Ts: h.Ts})
		}
		out[had.at] = api.Read{Span: p, Seen: seen}
	}
	return out
}
