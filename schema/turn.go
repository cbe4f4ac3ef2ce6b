package schema

import (
	"lintel/api"
)

// change brings the element of a change to a state, in a draft of the next schema.
func change(s *api.Schema, d api.Ddl, state int) api.Errno {
	if d.Kind < api.AddTable || d.Kind > api.DropForeign {
		return api.ErrArg
	}
	if d.Kind == api.AddTable {
		return addTable(s, d, state)
	}
	at := tableNamed(s.Tables, d.Table)
	if at < 0 {
		return api.ErrTable
	}
	t := &s.Tables[at]
	var err api.Errno
	switch d.Kind {
	case api.AddColumn:
		t.Columns, err = add(t.Columns, d.Column, state, ofColumn, func() (api.Column, api.Errno) { return newColumn(s, d) })
	case api.AddIndex:
		t.Indexes, err = add(t.Indexes, d.Name, state, ofIndex, func() (api.Index, api.Errno) { return newIndex(s, t, d) })
	case api.AddForeign:
		t.Keys, err = add(t.Keys, d.Name, state, ofForeign, func() (api.Foreign, api.Errno) { return newForeign(s, t, d) })
	case api.DropColumn:
		t.Columns, err = drop(t.Columns, d.Column, state, ofColumn, func(at int) api.Errno { return refuseColumn(t, at) })
	case api.DropIndex:
		t.Indexes, err = drop(t.Indexes, d.Name, state, ofIndex, refuseName)
	case api.DropForeign:
		t.Keys, err = drop(t.Keys, d.Name, state, ofForeign, refuseName)
	}
	return err
}

// addTable puts a new table behind the others.
func addTable(s *api.Schema, d api.Ddl, state int) api.Errno {
	var names []string
	for _, c := range d.Columns {
		names = append(names, c.Name)
	}
	strange := func(name *string) bool { return !mayName(*name) }
	strangeKind := func(c *api.Column) bool { return !mayKind(c.Kind) }
	switch {
	case !mayName(d.Table) || find(names, strange) >= 0:
		return api.ErrForm
	case tableNamed(s.Tables, d.Table) >= 0 || !unlike(names):
		return api.ErrThere
	case len(s.Tables) == api.MaxTables || len(names) < 1 || len(names) > api.MaxParts:
		return api.ErrMany
	case find(d.Columns, strangeKind) >= 0:
		return api.ErrKind
	case state != api.Public:
		return api.ErrArg
	}
	t := api.Table{Id: give(s), Name: d.Table}
	for _, c := range d.Columns {
		t.Columns = append(t.Columns, api.Column{Id: give(s), Name: c.Name, Kind: c.Kind, State: api.Public})
	}
	s.Tables = append(s.Tables, t)
	return api.OK
}

// add brings the element of a name to a state: the one that is there, or else a new one, behind the others.
func add[T any](list []T, name string, state int, of func(*T) part, fresh func() (T, api.Errno)) ([]T, api.Errno) {
	if at := named(list, name, of); at >= 0 {
		if *of(&list[at]).state == api.Public {
			return nil, api.ErrThere
		}
		return set(list, at, state, of), api.OK
	}
	if !mayName(name) {
		return nil, api.ErrForm
	}
	if len(list) == api.MaxParts {
		return nil, api.ErrMany
	}
	x, err := fresh()
	if err != api.OK {
		return nil, err
	}
	if state == api.Absent {
		return nil, api.ErrArg
	}
	return set(append(list, x), len(list), state, of), api.OK
}

// drop brings the element of a name to a state, unless that is refused of the one at its place (-1: there is none).
func drop[T any](list []T, name string, state int, of func(*T) part, refuse func(at int) api.Errno) ([]T, api.Errno) {
	at := named(list, name, of)
	if err := refuse(at); err != api.OK {
		return nil, err
	}
	return set(list, at, state, of), api.OK
}
