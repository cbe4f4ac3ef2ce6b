package bind

import (
	"slices"

	"lintel/api"
	"lintel/value"
)

// A rule is a closure over a table: it binds a part of a statement, or answers what is wrong with that part.
type rule func(stmt api.Stmt, out *api.Bound) api.Errno

// rules answers what holds for a statement of a kind, in the order in which its faults count.
func rules(t api.Table, kind int) []rule {
	switch kind {
	case api.Insert:
		return []rule{valuesOf(t)}
	case api.Update:
		return []rule{setOf(t), whereOf(t)}
	}
	return []rule{whereOf(t)}
}

// valuesOf is the rule of a new row's values: each column has one, and the key's isn't null.
func valuesOf(t api.Table) rule {
	return func(stmt api.Stmt, out *api.Bound) api.Errno {
		if len(stmt.Values) != len(t.Columns) {
			return api.ErrCount
		}
		for i, v := range stmt.Values {
			if err := fits(t.Columns[i], v); err != api.OK {
				return err
			}
			if i == 0 && v.Kind == api.Null {
				return api.ErrNull
			}
		}
		out.Values = slices.Clone(stmt.Values)
		return api.OK
	}
}

// setOf is the rule of a column's next value: a row's key stays as it is.
func setOf(t api.Table) rule {
	return func(stmt api.Stmt, out *api.Bound) api.Errno {
		at := columnNamed(t, stmt.Set)
		switch at {
		case -1:
			return api.ErrColumn
		case 0:
			return api.ErrUsed
		}
		out.Set, out.To = t.Columns[at].Id, stmt.To
		return fits(t.Columns[at], stmt.To)
	}
}

// whereOf is the rule of which rows are meant. Without a Where nobody asks for the value beside it.
func whereOf(t api.Table) rule {
	return func(stmt api.Stmt, out *api.Bound) api.Errno {
		if stmt.Where == "" {
			return api.OK
		}
		at := columnNamed(t, stmt.Where)
		if at < 0 {
			return api.ErrColumn
		}
		out.Where, out.Is = t.Columns[at].Id, stmt.Is
		return fits(t.Columns[at], stmt.Is)
	}
}

// columnNamed answers the place of the column of a name, or -1.
func columnNamed(t api.Table, name string) int {
	return slices.IndexFunc(t.Columns, func(c api.Column) bool { return c.Name == name })
}

// fits answers what is wrong with a value of a column. It may be null: of the key that is a rule's own matter.
func fits(c api.Column, v api.Value) api.Errno {
	if err := value.Check(v); err != api.OK {
		return err
	}
	if v.Kind != api.Null && v.Kind != c.Kind {
		return api.ErrKind
	}
	return api.OK
}
