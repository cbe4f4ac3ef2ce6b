package work

import (
	"cmp"
	"slices"

	"lintel/api"
	"lintel/rows"
)

// A row is a hit whose value is a row's bytes: where it lies, its key value, its cells.
type row struct {
	at    string
	key   api.Value
	cells []api.Cell
}

// rowOf answers the row of a table that a hit is, and whether it is one.
func rowOf(t api.Table, h api.Hit) (row, bool) {
	cells := cellsOf(h)
	return row{h.Key, rows.Of(cells, t.Columns[0].Id), cells}, len(cells) > 0
}

// cellsOf answers a hit's cells: without any it is no row, as with layer 20.
func cellsOf(h api.Hit) []api.Cell {
	// Beside an error there are none.
	cells, _ := rows.Get(h.Value)
	return cells
}

// A fill is what is done with a row. It tells why the change can't be.
type fill func(*draft, row) api.Errno

// fillOf answers what the fill of a change does, or nil, if the table lacks what the change is about.
func fillOf(t api.Table, d api.Ddl) fill {
	switch d.Kind {
	case api.AddIndex:
		if at := indexNamed(t, d.Name); at >= 0 {
			return fillIndex(t.Indexes[at])
		}
	case api.AddColumn:
		at := slices.IndexFunc(t.Columns, func(c api.Column) bool { return c.Name == d.Column })
		if at >= 0 {
			return fillColumn(t.Columns[at])
		}
	case api.AddForeign:
		at := slices.IndexFunc(t.Keys, func(f api.Foreign) bool { return f.Name == d.Name })
		if at >= 0 {
			return fillForeign(t, t.Keys[at])
		}
	}
	return nil
}

// fillIndex puts each row's entry. ErrTwice, if another one has a value that may be there but once.
func fillIndex(i api.Index) fill {
	// The reader doesn't show what the piece itself has put.
	var had []api.Value
	return func(x *draft, r row) api.Errno {
		v := rows.Of(r.cells, i.Column)
		if i.Unique && v.Kind != api.Null {
			if x.others(i.Id, v, r.key) || slices.Contains(had, v) {
				return api.ErrTwice
			}
		}
		had = append(had, v)
		x.write(api.Write{Key: rows.Entry(i.Id, v, r.key)})
		return api.OK
	}
}

// fillColumn puts the column's Default into each row that lacks it. Its entries stay: no value that was there changes.
func fillColumn(c api.Column) fill {
	return func(x *draft, r row) api.Errno {
		at, has := slices.BinarySearchFunc(r.cells, c.Id, func(have api.Cell, id int) int { return cmp.Compare(have.Id, id) })
		if has {
			return api.OK
		}
		// The ids still rise, and the Default may be, as the schema is right: so there are bytes.
		bytes, _ := rows.Put(slices.Insert(r.cells, at, api.Cell{Id: c.Id, Value: c.Default}))
		x.write(api.Write{Key: r.at, Value: bytes})
		return api.OK
	}
}

// fillForeign looks for each row's parent. ErrParent.
func fillForeign(t api.Table, f api.Foreign) fill {
	return func(x *draft, r row) api.Errno {
		v := rows.Of(r.cells, f.Column)
		itself := f.Parent == t.Id && v == r.key
		if v.Kind != api.Null && !itself && !x.has(f.Parent, v) {
			return api.ErrParent
		}
		return api.OK
	}
}
