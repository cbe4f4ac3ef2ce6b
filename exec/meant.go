package exec

import (
	"slices"

	"lintel/api"
	"lintel/rows"
)

// A row is a hit whose value is a row's bytes.
type row struct {
	key   string
	cells []api.Cell
}

// meant answers the rows that a statement's Where means, in order.
func (x *run) meant(t api.Table, b api.Bound) ([]row, api.Errno) {
	switch b.Where {
	case 0:
		return x.all(t.Id)
	case t.Columns[0].Id:
		return x.byKey(t.Id, b.Is), api.OK
	}
	at := slices.IndexFunc(t.Indexes, func(i api.Index) bool { return i.State == api.Public && i.Column == b.Where })
	if at >= 0 {
		return x.byEntries(t.Id, t.Indexes[at].Id, b.Is)
	}
	list, err := x.all(t.Id)
	return slices.DeleteFunc(list, func(r row) bool { return rows.Of(r.cells, b.Where) != b.Is }), err
}

// all answers all rows of a table. ErrMany.
func (x *run) all(table int) ([]row, api.Errno) {
	hits, err := x.some(rows.Table(table))
	return rowsOf(hits), err
}

// byKey answers a table's row with a key value, if there is one.
func (x *run) byKey(table int, k api.Value) []row {
	key := rows.Row(table, k)
	return rowsOf(x.find(api.Span{From: key, To: key + "\x00"}))
}

// byEntries answers a table's rows that an index has entries of for a value. ErrMany.
func (x *run) byEntries(table, index int, v api.Value) ([]row, api.Errno) {
	list, err := x.entries(index, v)
	var out []row
	for _, k := range list {
		// None, if the entry has no row.
		out = append(out, x.byKey(table, k)...)
	}
	return out, err
}

// entries answers the key values of the rows that an index has entries of for a value, in order. ErrMany.
func (x *run) entries(index int, v api.Value) ([]api.Value, api.Errno) {
	hits, err := x.some(rows.Equal(index, v))
	var out []api.Value
	for _, h := range hits {
		// Other keys than entries' may lie in the span, too: shorter or longer lists', or none's.
		if k, no := rows.Key(h.Key); no == api.OK && rows.Entry(index, v, k) == h.Key {
			out = append(out, k)
		}
	}
	return out, err
}

// rowsOf answers those of some hits that are rows. No cells are no row, as with layer 20.
func rowsOf(hits []api.Hit) []row {
	var out []row
	for _, h := range hits {
		if cells, err := rows.Get(h.Value); err == api.OK && len(cells) > 0 {
			out = append(out, row{h.Key, cells})
		}
	}
	return out
}
