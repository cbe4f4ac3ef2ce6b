package work

import (
	"slices"

	"lintel/api"
	"lintel/rows"
	"lintel/schema"
)

// A task is the keys to come, and what is done with each hit of these: a reason is told why the change can't be.
type task struct {
	span api.Span
	each func(*draft, api.Hit) api.Errno
}

// piece does a piece of a task, from a mark on.
func (w task) piece(mark string, x *draft) Piece {
	hits, over := x.first(w.span)
	out := Piece{Mark: mark, Over: over}
	for _, h := range hits {
		if why := w.each(x, h); why != api.OK {
			// What was read goes with the reason: it is one only as long as that holds.
			return Piece{Effect: api.Effect{Reads: x.reads()}, Mark: mark, Why: why}
		}
		out.Mark = h.Key
	}
	out.Effect = api.Effect{Reads: x.reads(), Writes: x.writes}
	return out
}

// taskOf answers what a move of a job has to do, and whether there is that.
func taskOf(s api.Schema, j api.Job, m api.Move) (task, bool) {
	t, ok := schema.Table(s, j.Ddl.Table)
	if !ok {
		return task{}, false
	}
	switch m.Kind {
	case api.Fill:
		return toFill(t, j)
	case api.Sweep:
		return toSweep(t, j.Ddl)
	}
	return task{}, false
}

// toFill goes through the rows above the job's mark.
func toFill(t api.Table, j api.Job) (task, bool) {
	do := fillOf(t, j.Ddl)
	span := rows.Table(t.Id)
	span.From = max(span.From, behind(j.Mark))
	each := func(x *draft, h api.Hit) api.Errno {
		if r, ok := rowOf(t, h); ok {
			return do(x, r)
		}
		return api.OK
	}
	return task{span, each}, do != nil
}

// toSweep goes through all entries of an index: those ahead of the job's mark are gone already.
func toSweep(t api.Table, d api.Ddl) (task, bool) {
	at := indexNamed(t, d.Name)
	if at < 0 || d.Kind != api.AddIndex && d.Kind != api.DropIndex {
		return task{}, false
	}
	each := func(x *draft, h api.Hit) api.Errno {
		x.write(api.Write{Key: h.Key, Dead: true})
		return api.OK
	}
	return task{rows.Index(t.Indexes[at].Id), each}, true
}

// indexNamed answers the place of the index of a name, or -1.
func indexNamed(t api.Table, name string) int {
	return slices.IndexFunc(t.Indexes, func(x api.Index) bool { return x.Name == name })
}
