package exec

import (
	"cmp"
	"slices"

	"lintel/api"
	"lintel/rows"
)

// insert puts a new row. ErrTwice, and what is wrong with the row.
func (x *run) insert(t api.Table, b api.Bound) (api.Reply, api.Errno) {
	if len(x.byKey(t.Id, b.Values[0])) > 0 {
		return api.Reply{}, api.ErrTwice
	}
	var cells []api.Cell
	for i, c := range publicColumns(t) {
		cells = append(cells, api.Cell{Id: c.Id, Value: b.Values[i]})
	}
	return api.Reply{N: 1}, x.put(t, nil, cells)
}

// update sets a column of the rows that are meant. ErrMany, and what is wrong with a row.
func (x *run) update(t api.Table, b api.Bound) (api.Reply, api.Errno) {
	list, err := x.meant(t, b)
	if err != api.OK {
		return api.Reply{}, err
	}
	for _, r := range list {
		if err := x.put(t, r.cells, with(r.cells, api.Cell{Id: b.Set, Value: b.To})); err != api.OK {
			return api.Reply{}, err
		}
	}
	return api.Reply{N: len(list)}, api.OK
}

// delete takes the rows that are meant away. ErrMany, ErrChild.
func (x *run) delete(t api.Table, b api.Bound) (api.Reply, api.Errno) {
	list, err := x.meant(t, b)
	if err != api.OK {
		return api.Reply{}, err
	}
	for _, r := range list {
		if err := x.checkChildren(t, r); err != api.OK {
			return api.Reply{}, err
		}
		x.write(rows.Changes(t, r.cells, nil))
	}
	return api.Reply{N: len(list)}, api.OK
}

// choose tells the rows that are meant. ErrMany.
func (x *run) choose(t api.Table, b api.Bound) (api.Reply, api.Errno) {
	list, err := x.meant(t, b)
	if err != api.OK {
		return api.Reply{}, err
	}
	columns := publicColumns(t)
	var out [][]api.Value
	for _, r := range list {
		var values []api.Value
		for _, c := range columns {
			values = append(values, rows.Of(r.cells, c.Id))
		}
		out = append(out, values)
	}
	return api.Reply{Rows: out}, api.OK
}

// put writes a row that goes from old to new, once it is checked. A WriteOnly column that it lacks gets its Default: whoever has it Public already finds it so.
func (x *run) put(t api.Table, old, new []api.Cell) api.Errno {
	for _, c := range t.Columns {
		lacks := !slices.ContainsFunc(new, func(have api.Cell) bool { return have.Id == c.Id })
		if lacks && c.State == api.WriteOnly {
			new = append(new, api.Cell{Id: c.Id, Value: c.Default})
		}
	}
	// A table's columns may stand in another order than their ids.
	slices.SortFunc(new, func(a, b api.Cell) int { return cmp.Compare(a.Id, b.Id) })
	if err := x.check(t, old, new); err != api.OK {
		return err
	}
	x.write(rows.Changes(t, old, new))
	return api.OK
}

// with answers a copy of some cells with that one in it, in the place of one with its id or behind all.
func with(cells []api.Cell, c api.Cell) []api.Cell {
	out := slices.DeleteFunc(slices.Clone(cells), func(have api.Cell) bool { return have.Id == c.Id })
	return append(out, c)
}
