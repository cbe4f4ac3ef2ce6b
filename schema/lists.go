package schema

import (
	"slices"

	"lintel/api"
)

// part is what elements of all sorts have; the state is where the element keeps it, to be read or set.
type part struct {
	id    int
	name  string
	state *int
}

func ofColumn(c *api.Column) part   { return part{c.Id, c.Name, &c.State} }
func ofIndex(x *api.Index) part     { return part{x.Id, x.Name, &x.State} }
func ofForeign(k *api.Foreign) part { return part{k.Id, k.Name, &k.State} }

// find answers the first place in a list at which it is so, or -1.
func find[T any](list []T, is func(*T) bool) int {
	for i := range list {
		if is(&list[i]) {
			return i
		}
	}
	return -1
}

// named answers the place of the element of a name, or -1.
func named[T any](list []T, name string, of func(*T) part) int {
	return find(list, func(x *T) bool { return of(x).name == name })
}

func tableNamed(list []api.Table, name string) int {
	return find(list, func(t *api.Table) bool { return t.Name == name })
}

// set gives the element at a place a state, or takes it out of the list, which is the caller's own.
func set[T any](list []T, at, state int, of func(*T) part) []T {
	if state == api.Absent {
		return slices.Delete(list, at, at+1)
	}
	*of(&list[at]).state = state
	return list
}

// public answers those of a list that are Public, as a list of their own.
func public[T any](list []T, of func(*T) part) []T {
	var out []T
	for i := range list {
		if *of(&list[i]).state == api.Public {
			out = append(out, list[i])
		}
	}
	return out
}

// unlike tells whether no two of a list are the same.
func unlike[K comparable](list []K) bool {
	seen := map[K]struct{}{}
	for _, k := range list {
		seen[k] = struct{}{}
	}
	return len(seen) == len(list)
}

// eachTable answers the schema with what a function makes of its tables.
func eachTable(s api.Schema, next func(api.Table) api.Table) api.Schema {
	var tables []api.Table
	for _, t := range s.Tables {
		tables = append(tables, next(t))
	}
	s.Tables = tables
	return s
}

func cloneSchema(s api.Schema) api.Schema {
	return eachTable(s, cloneTable)
}

func cloneTable(t api.Table) api.Table {
	t.Columns = own(t.Columns)
	t.Indexes = own(t.Indexes)
	t.Keys = own(t.Keys)
	return t
}

// own answers a copy. An empty one has no memory at all: slices.Clone would let it point into the list.
func own[T any](list []T) []T {
	return append([]T(nil), list...)
}
