package schema

import (
	"lintel/api"
)

// give answers an id that no other one ever was.
func give(s *api.Schema) int {
	s.Last++
	return s.Last
}

// The new elements have no state yet: add gives it to all sorts of them.

func newColumn(s *api.Schema, d api.Ddl) (api.Column, api.Errno) {
	if !mayKind(d.Type) || !mayDefault(d.Default, d.Type) {
		return api.Column{}, api.ErrKind
	}
	return api.Column{Id: give(s), Name: d.Column, Kind: d.Type, Default: d.Default}, api.OK
}

func newIndex(s *api.Schema, t *api.Table, d api.Ddl) (api.Index, api.Errno) {
	at := publicColumn(t, d.Column)
	if at < 0 {
		return api.Index{}, api.ErrColumn
	}
	return api.Index{Id: give(s), Name: d.Name, Column: t.Columns[at].Id, Unique: d.Unique}, api.OK
}

func newForeign(s *api.Schema, t *api.Table, d api.Ddl) (api.Foreign, api.Errno) {
	at := publicColumn(t, d.Column)
	if at < 0 {
		return api.Foreign{}, api.ErrColumn
	}
	parent := tableNamed(s.Tables, d.Parent)
	if parent < 0 {
		return api.Foreign{}, api.ErrTable
	}
	p := s.Tables[parent]
	if p.Columns[0].Kind != t.Columns[at].Kind {
		return api.Foreign{}, api.ErrKind
	}
	return api.Foreign{Id: give(s), Name: d.Name, Column: t.Columns[at].Id, Parent: p.Id}, api.OK
}

// publicColumn answers the place of the Public column of a name, or -1.
func publicColumn(t *api.Table, name string) int {
	return find(t.Columns, func(c *api.Column) bool { return c.Name == name && c.State == api.Public })
}

// refuseName answers what is wrong with dropping an index or a foreign key at a place.
func refuseName(at int) api.Errno {
	if at < 0 {
		return api.ErrName
	}
	return api.OK
}

// refuseColumn answers what is wrong with dropping a column at a place: whatever is over it must go first.
func refuseColumn(t *api.Table, at int) api.Errno {
	if at < 0 {
		return api.ErrColumn
	}
	id := t.Columns[at].Id
	index := find(t.Indexes, func(x *api.Index) bool { return x.Column == id })
	foreign := find(t.Keys, func(k *api.Foreign) bool { return k.Column == id })
	if at == 0 || index >= 0 || foreign >= 0 {
		return api.ErrUsed
	}
	return api.OK
}
