package exec

import (
	"slices"

	"lintel/api"
	"lintel/value"
)

// may tells whether a statement of that table is as Bind makes them. What its Kind has no use for isn't looked at.
func may(t api.Table, b api.Bound) bool {
	switch b.Kind {
	case api.Insert:
		return mayRow(t, b.Values)
	case api.Update:
		return b.Set != t.Columns[0].Id && mayBe(t, b.Set, b.To) && mayWhere(t, b)
	case api.Delete, api.Select:
		return mayWhere(t, b)
	}
	return false
}

// mayRow tells whether these may be a new row's values: one for each Public column, the first one not null.
func mayRow(t api.Table, values []api.Value) bool {
	columns := publicColumns(t)
	if len(values) != len(columns) || values[0].Kind == api.Null {
		return false
	}
	for i, v := range values {
		if !fits(columns[i], v) {
			return false
		}
	}
	return true
}

// mayWhere tells whether rows may be asked for so. Without a Where nothing is held against the value beside it.
func mayWhere(t api.Table, b api.Bound) bool {
	return b.Where == 0 || mayBe(t, b.Where, b.Is)
}

// mayBe tells whether there is a Public column with that id, and the value may stand there.
func mayBe(t api.Table, id int, v api.Value) bool {
	columns := publicColumns(t)
	at := slices.IndexFunc(columns, func(c api.Column) bool { return c.Id == id })
	return at >= 0 && fits(columns[at], v)
}

// fits tells whether a value may stand in a column: null may in any.
func fits(c api.Column, v api.Value) bool {
	return value.Check(v) == api.OK && (v.Kind == api.Null || v.Kind == c.Kind)
}

// publicColumns answers a table's Public columns, in order: the key is the first of them, too.
func publicColumns(t api.Table) []api.Column {
	var out []api.Column
	for _, c := range t.Columns {
		if c.State == api.Public {
			out = append(out, c)
		}
	}
	return out
}
