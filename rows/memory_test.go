package rows_test

import (
	"slices"
	"testing"

	"lintel/api"
	"lintel/rows"
)

// stretch gives a list spare room with something in it.
func stretch[T any](list []T, spare T) []T {
	whole := append(append(make([]T, 0, len(list)+3), list...), spare, spare, spare)
	return whole[:len(list)]
}

// whole answers a list with its spare room.
func whole[T any](list []T) []T { return list[:cap(list)] }

// told answers what Changes is told, all lists with spare room.
func told() (u api.Table, old, new []api.Cell) {
	u = table(api.Public)
	u.Columns = stretch(u.Columns, api.Column{Id: 77, Name: "spare"})
	u.Indexes = stretch(u.Indexes, api.Index{Id: 77, Column: 2, State: api.Public})
	u.Keys = stretch([]api.Foreign{}, api.Foreign{Id: 77})
	spare := cell(77, number(77))
	return u, stretch(row(text("x")), spare), stretch(row(text("y")), spare)
}

// What is handed in stays as it is, its spare room too, and its spare room is not looked at.
func TestNothingIsChanged(t *testing.T) {
	u, old, new := told()
	freshTable, freshOld, freshNew := told()
	rows.Put(new)
	rows.Of(new, 77)
	rows.Changes(u, nil, new)
	rows.Changes(u, old, nil)
	checkChanges(t, u, old, new, rows.Changes(table(api.Public), row(text("x")), row(text("y")))...)
	if !slices.Equal(whole(old), whole(freshOld)) || !slices.Equal(whole(new), whole(freshNew)) {
		t.Error("cells have changed")
	}
	if !slices.Equal(whole(u.Columns), whole(freshTable.Columns)) || !slices.Equal(whole(u.Indexes), whole(freshTable.Indexes)) || !slices.Equal(whole(u.Keys), whole(freshTable.Keys)) {
		t.Error("the table has changed")
	}
}

// What is answered is new memory: writing over it, its spare room too, is seen in no other answer, and writing over what was told isn't seen in it.
func TestAnswersAreNew(t *testing.T) {
	u, old, new := told()
	first, second := rows.Changes(u, old, new), rows.Changes(u, old, new)
	want := slices.Clone(second)
	for i := range whole(first) {
		whole(first)[i] = api.Write{Key: "spoilt"}
	}
	clear(whole(u.Columns))
	clear(whole(u.Indexes))
	clear(whole(old))
	clear(whole(new))
	if !slices.Equal(second, want) {
		t.Error("writes share their memory")
	}
	bytes := bytesOfRow(row(text("x")))
	one, _ := rows.Get(bytes)
	two, _ := rows.Get(bytes)
	clear(whole(one))
	if !slices.Equal(two, row(text("x"))) {
		t.Error("cells share their memory")
	}
}
