package exec

import (
	"slices"

	"lintel/api"
	"lintel/rows"
)

// check answers what is wrong with a row that is to go from old to new: ErrTwice (or ErrMany), then ErrParent. What it had already isn't looked at.
func (x *run) check(t api.Table, old, new []api.Cell) api.Errno {
	k := rows.Of(new, t.Columns[0].Id)
	// asks answers the value that an element over a column asks about, and whether it does.
	asks := func(state, column int) (api.Value, bool) {
		v := rows.Of(new, column)
		return v, counts(state) && v.Kind != api.Null && v != rows.Of(old, column)
	}
	for _, i := range t.Indexes {
		v, ok := asks(i.State, i.Column)
		if !ok || !i.Unique {
			continue
		}
		list, err := x.entries(i.Id, v)
		if err != api.OK {
			return err
		}
		if slices.ContainsFunc(list, func(other api.Value) bool { return other != k }) {
			return api.ErrTwice
		}
	}
	for _, f := range t.Keys {
		v, ok := asks(f.State, f.Column)
		// A new row may name itself: it isn't there yet.
		if ok && len(x.byKey(f.Parent, v)) == 0 && (f.Parent != t.Id || v != k) {
			return api.ErrParent
		}
	}
	return api.OK
}

// checkChildren answers ErrChild, if another row names that one (or ErrMany, if there are too many rows to tell).
func (x *run) checkChildren(t api.Table, r row) api.Errno {
	k := rows.Of(r.cells, t.Columns[0].Id)
	for _, child := range x.tables {
		for _, f := range child.Keys {
			if !counts(f.State) || f.Parent != t.Id {
				continue
			}
			list, err := x.all(child.Id)
			if err != api.OK {
				return err
			}
			// Tables' keys are unlike: no other table has a row with that key.
			names := func(c row) bool { return c.key != r.key && rows.Of(c.cells, f.Column) == k }
			if slices.ContainsFunc(list, names) {
				return api.ErrChild
			}
		}
	}
	return api.OK
}

// counts tells whether an element in that state must hold: who has it Public already goes by it.
func counts(state int) bool {
	return state == api.WriteOnly || state == api.Public
}
