package bind_test

import (
	"reflect"
	"testing"

	"lintel/api"
	"lintel/bind"
)

// stretch gives a list spare room with something in it.
func stretch[T any](list []T, spare T) []T {
	whole := append(append(make([]T, 0, len(list)+3), list...), spare, spare, spare)
	return whole[:len(list)]
}

// whole answers a list with its spare room.
func whole[T any](list []T) []T { return list[:cap(list)] }

// told answers what Bind is told, all lists with spare room: two calls answer the same in memory of their own.
func told() (api.Schema, []api.Stmt) {
	s := rich()
	for i := range s.Tables {
		x := &s.Tables[i]
		x.Columns = stretch(x.Columns, api.Column{Id: 99, Name: "spare", State: api.Public})
		x.Indexes = stretch(x.Indexes, api.Index{Id: 99, Name: "spare"})
		x.Keys = stretch(x.Keys, api.Foreign{Id: 99, Name: "spare"})
	}
	s.Tables = stretch(s.Tables, api.Table{Id: 99, Name: "spare"})
	row := stretch([]api.Value{number(1), text("x"), {}, text("y")}, number(77))
	list := stretch([]api.Stmt{
		{Kind: api.Insert, Table: "t", Values: row},
		{Kind: api.Insert, Table: "t", Values: row},
		{Kind: api.Update, Table: "t", Values: row, Set: "b", To: text("z"), Where: "c", Is: number(4)},
		{Kind: api.Insert, Table: "v", Values: row[:1]},
		{Kind: api.Delete, Table: "u", Where: "n", Is: number(4)},
	}, api.Stmt{Kind: -1, Table: "spare"})
	return s, list
}

// lists answers all that a schema and statements hold, with all spare room.
func lists(s api.Schema, list []api.Stmt) []any {
	all := []any{whole(s.Tables), whole(list)}
	for _, x := range s.Tables {
		all = append(all, whole(x.Columns), whole(x.Indexes), whole(x.Keys))
	}
	for _, stmt := range list {
		all = append(all, whole(stmt.Values))
	}
	return all
}

// What is handed in stays as it is, its spare room too, whether it is bound or refused.
func TestNothingIsChanged(t *testing.T) {
	s, list := told()
	fresh, freshList := told()
	if _, _, err := bind.Bind(s, list); err != api.OK || !reflect.DeepEqual(lists(s, list), lists(fresh, freshList)) {
		t.Fatalf("Bind (%d) has changed what it was told", err)
	}
	list[4].Where, freshList[4].Where = "none", "none"
	if _, at, err := bind.Bind(s, list); at != 4 || err != api.ErrColumn || !reflect.DeepEqual(lists(s, list), lists(fresh, freshList)) {
		t.Fatalf("Bind (%d, %d) has changed what it was told", at, err)
	}
	s.Version, fresh.Version = -1, -1
	if _, _, err := bind.Bind(s, list); err != api.ErrForm || !reflect.DeepEqual(lists(s, list), lists(fresh, freshList)) {
		t.Fatalf("Bind (%d) has changed what it was told", err)
	}
}

// What is answered is new memory: writing over it, its spare room too, is seen nowhere else, and writing over what was told is not seen in it.
func TestAnswersAreNew(t *testing.T) {
	s, list := told()
	fresh, freshList := told()
	first, _, _ := bind.Bind(s, list)
	second, _, _ := bind.Bind(s, list)
	want := plain(second)
	for _, v := range whole(first) {
		for i := range whole(v.Values) {
			whole(v.Values)[i] = number(-77)
		}
	}
	for i := range whole(first) {
		whole(first)[i] = api.Bound{Kind: -77}
	}
	if !reflect.DeepEqual(lists(s, list), lists(fresh, freshList)) || !same(second, want) {
		t.Fatal("an answer shares its memory")
	}
	for i := range whole(list[0].Values) {
		whole(list[0].Values)[i] = number(-77)
	}
	clear(whole(list))
	for i := range s.Tables {
		clear(whole(s.Tables[i].Columns))
	}
	clear(whole(s.Tables))
	if !same(second, want) {
		t.Fatal("an answer is memory of what was told")
	}
}

// No two lists of one answer share any memory, also if those that were told do.
func TestListsOfOneAnswer(t *testing.T) {
	s, list := told()
	got, _, _ := bind.Bind(s, list)
	want := plain(got)
	for i := range got {
		for j := range whole(got[i].Values) {
			whole(got[i].Values)[j] = number(-77)
		}
		got[i].Values = want[i].Values
		if !same(got, want) {
			t.Fatalf("the values of %d are another one's", i)
		}
	}
}
