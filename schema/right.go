package schema

import (
	"lintel/api"
	"lintel/value"
)

// Neither a version nor an id is greater.
const most = 1 << 50

// right tells whether a schema is right. How many there are of everything is looked at first: what is too much is not gone through.
func right(s api.Schema) bool {
	if s.Version < 0 || s.Version > most || s.Last < 0 || s.Last > most || len(s.Tables) > api.MaxTables {
		return false
	}
	var names []string
	var ids []int
	for _, t := range s.Tables {
		if !rightCounts(t) || !mayName(t.Name) || !rightElements(t) {
			return false
		}
		names = append(names, t.Name)
		ids = append(ids, idsOf(t)...)
	}
	strange := find(ids, func(id *int) bool { return *id < 1 || *id > s.Last })
	if strange >= 0 || !unlike(ids) || !unlike(names) {
		return false
	}
	return find(s.Tables, func(t *api.Table) bool { return !rightLinks(s.Tables, *t) }) < 0
}

func rightCounts(t api.Table) bool {
	return len(t.Columns) >= 1 && max(len(t.Columns), len(t.Indexes), len(t.Keys)) <= api.MaxParts
}

// rightElements tells whether a table's elements are right, each of them by itself and beside those of its sort.
func rightElements(t api.Table) bool {
	wrong := find(t.Columns, func(c *api.Column) bool { return !mayKind(c.Kind) || !mayDefault(c.Default, c.Kind) })
	return wrong < 0 && t.Columns[0].State == api.Public &&
		rightParts(t.Columns, ofColumn) && rightParts(t.Indexes, ofIndex) && rightParts(t.Keys, ofForeign)
}

// rightParts tells whether the names of elements of one sort, and their states, may be.
func rightParts[T any](list []T, of func(*T) part) bool {
	var names []string
	for i := range list {
		p := of(&list[i])
		if !mayName(p.name) || *p.state < api.DeleteOnly || *p.state > api.Public {
			return false
		}
		names = append(names, p.name)
	}
	return unlike(names)
}

// rightLinks tells whether what a table's indexes and foreign keys name by ids is there; every table has a key already.
func rightLinks(tables []api.Table, t api.Table) bool {
	lost := find(t.Indexes, func(x *api.Index) bool { return columnOf(t, x.Column) < 0 })
	wrong := find(t.Keys, func(k *api.Foreign) bool {
		column, parent := columnOf(t, k.Column), tableOf(tables, k.Parent)
		return column < 0 || parent < 0 || tables[parent].Columns[0].Kind != t.Columns[column].Kind
	})
	return lost < 0 && wrong < 0
}

// columnOf answers the place of the column with an id, or -1.
func columnOf(t api.Table, id int) int {
	return find(t.Columns, func(c *api.Column) bool { return c.Id == id })
}

// tableOf answers the place of the table with an id, or -1.
func tableOf(tables []api.Table, id int) int {
	return find(tables, func(t *api.Table) bool { return t.Id == id })
}

// idsOf answers all ids of a table.
func idsOf(t api.Table) []int {
	ids := []int{t.Id}
	ids = appendIds(ids, t.Columns, ofColumn)
	ids = appendIds(ids, t.Indexes, ofIndex)
	return appendIds(ids, t.Keys, ofForeign)
}

func appendIds[T any](ids []int, list []T, of func(*T) part) []int {
	for i := range list {
		ids = append(ids, of(&list[i]).id)
	}
	return ids
}

func mayName(s string) bool {
	if s == "" || len(s) > api.MaxName || !isLetter(s[0]) {
		return false
	}
	for i := range len(s) {
		if !isLetter(s[i]) && !isDigit(s[i]) && s[i] != '_' {
			return false
		}
	}
	return true
}

func isLetter(c byte) bool { return 'a' <= c && c <= 'z' }

func isDigit(c byte) bool { return '0' <= c && c <= '9' }

func mayKind(kind int) bool { return kind == api.Int || kind == api.Text }

func mayDefault(v api.Value, kind int) bool {
	return value.Check(v) == api.OK && (v.Kind == api.Null || v.Kind == kind)
}
