package schema_test

import (
	"reflect"
	"testing"

	"lintel/api"
	"lintel/schema"
)

// roomy gives all lists of a schema spare room, with something in it; the second answer looks whether that is still there.
func roomy(s api.Schema) (api.Schema, func() bool) {
	var looks []func() bool
	s = copyOf(s)
	for i := range s.Tables {
		t := &s.Tables[i]
		t.Columns, looks = stretch(t.Columns, api.Column{Id: 99, Name: "spare"}, looks)
		t.Indexes, looks = stretch(t.Indexes, api.Index{Id: 99, Name: "spare"}, looks)
		t.Keys, looks = stretch(t.Keys, api.Foreign{Id: 99, Name: "spare"}, looks)
	}
	s.Tables, looks = stretch(s.Tables, api.Table{Id: 99, Name: "spare"}, looks)
	return s, func() bool {
		for _, look := range looks {
			if !look() {
				return false
			}
		}
		return true
	}
}

func stretch[T any](list []T, spare T, looks []func() bool) ([]T, []func() bool) {
	n := len(list)
	whole := append(append(make([]T, 0, n+3), list...), spare, spare, spare)
	return whole[:n], append(looks, func() bool {
		for _, x := range whole[n:] {
			if !reflect.DeepEqual(x, spare) {
				return false
			}
		}
		return true
	})
}

// scribble writes over all memory of a schema's lists, their spare room too.
func scribble(s api.Schema) {
	for _, t := range s.Tables {
		scribbleTable(t)
	}
	for i := range s.Tables[:cap(s.Tables)] {
		s.Tables[:cap(s.Tables)][i] = api.Table{Id: -77, Name: "scribble"}
	}
}

func scribbleTable(t api.Table) {
	for i := range t.Columns[:cap(t.Columns)] {
		t.Columns[:cap(t.Columns)][i] = api.Column{Id: -77, Name: "scribble"}
	}
	for i := range t.Indexes[:cap(t.Indexes)] {
		t.Indexes[:cap(t.Indexes)][i] = api.Index{Id: -77, Name: "scribble"}
	}
	for i := range t.Keys[:cap(t.Keys)] {
		t.Keys[:cap(t.Keys)][i] = api.Foreign{Id: -77, Name: "scribble"}
	}
}

// P15.6, and the rule that what is handed in stays as it is: of each change, done or refused.
func TestTurnIsNew(t *testing.T) {
	for _, base := range []api.Schema{rich(), full(), {}} {
		for _, d := range changes() {
			for state := api.Absent; state <= api.Public; state++ {
				checkTurnIsNew(t, base, d, state)
			}
		}
	}
}

func checkTurnIsNew(t *testing.T, base api.Schema, d api.Ddl, state int) {
	t.Helper()
	s, unspoilt := roomy(base)
	told := append([]api.Column(nil), d.Columns...)
	room, looks := stretch(d.Columns, api.Column{Id: 99}, nil)
	d.Columns = room
	next, _ := schema.Turn(s, d, state)
	if !same(s, base) || !unspoilt() || !reflect.DeepEqual(append([]api.Column(nil), room...), told) || !looks[0]() {
		t.Fatalf("Turn(%+v, %d) has changed what it was told", d, state)
	}
	kept := copyOf(next)
	again, _ := schema.Turn(s, d, state)
	scribble(again)
	checkSame(t, next, kept)
	if !same(s, base) || !unspoilt() {
		t.Fatalf("what Turn(%+v, %d) answers is memory of what it was told", d, state)
	}
	scribble(s)
	for i := range d.Columns {
		d.Columns[i] = api.Column{Name: "scribble"}
	}
	checkSame(t, next, kept)
}

// P15.6
func TestTableIsNew(t *testing.T) {
	for _, name := range []string{"t", "u", "v"} {
		s, unspoilt := roomy(rich())
		first, _ := schema.Table(s, name)
		second, _ := schema.Table(s, name)
		kept := copyOfTable(second)
		scribbleTable(first)
		if !same(s, rich()) || !unspoilt() || !reflect.DeepEqual(copyOfTable(second), kept) {
			t.Fatalf("Table(%q) shares its memory", name)
		}
		scribble(s)
		if !reflect.DeepEqual(copyOfTable(second), kept) {
			t.Fatalf("Table(%q) is memory of the schema", name)
		}
	}
}

// P15.6
func TestSeenIsNew(t *testing.T) {
	for _, base := range []api.Schema{rich(), full(), schema.Seen(rich())} {
		s, unspoilt := roomy(base)
		first, second := schema.Seen(s), schema.Seen(s)
		kept := copyOf(second)
		scribble(first)
		checkSame(t, s, base)
		checkSame(t, second, kept)
		if !unspoilt() {
			t.Fatal("Seen has changed a schema's spare room")
		}
		scribble(s)
		checkSame(t, second, kept)
	}
}

// Check looks, and changes nothing.
func TestCheckChangesNothing(t *testing.T) {
	for _, spoil := range spoilers() {
		base := rich()
		spoil(&base)
		s, unspoilt := roomy(base)
		checkIs(t, s, api.ErrForm)
		checkSame(t, s, base)
		if !unspoilt() {
			t.Fatal("Check has changed a schema's spare room")
		}
	}
}

// nil and an empty list are one, wherever one is handed in.
func TestEmptyLists(t *testing.T) {
	s := api.Schema{Last: 2, Tables: []api.Table{{
		Id: 1, Name: "t", Columns: []api.Column{{Id: 2, Name: "a", Kind: api.Int, State: api.Public}}, Indexes: []api.Index{}, Keys: []api.Foreign{},
	}}}
	checkIs(t, s, api.OK)
	for _, d := range changes() {
		for state := api.Absent; state <= api.Public; state++ {
			a, errA := schema.Turn(s, d, state)
			b, errB := schema.Turn(copyOf(s), d, state)
			if errA != errB || !same(a, b) {
				t.Fatalf("Turn(%+v, %d) differs by empty lists: %d, %d", d, state, errA, errB)
			}
		}
	}
	checkRefused(t, s, api.Ddl{Kind: api.AddTable, Table: "x"}, api.Public, api.ErrMany)
	checkRefused(t, s, api.Ddl{Kind: api.AddTable, Table: "x", Columns: []api.Column{}}, api.Public, api.ErrMany)
	checkIs(t, api.Schema{Tables: []api.Table{{Id: 1, Name: "t", Columns: []api.Column{}}}, Last: 1}, api.ErrForm)
}

// Lists that are far too long are refused in no long time.
func TestLongLists(t *testing.T) {
	const n = 1 << 18
	many := make([]api.Column, n)
	for i := range many {
		many[i] = api.Column{Name: "c" + letters(i), Kind: api.Int}
	}
	checkLong(t, newTable("x", many...), api.ErrMany)
	many[n-1].Name = many[0].Name
	checkLong(t, newTable("x", many...), api.ErrThere)
	many[n-1].Name = ""
	checkLong(t, newTable("x", many...), api.ErrForm)
	checkLong(t, newTable(long("x", n)), api.ErrForm)
	for i, s := range []api.Schema{
		{Tables: make([]api.Table, n)},
		{Tables: []api.Table{{Columns: many}}},
		{Tables: []api.Table{{Indexes: make([]api.Index, n)}}},
		{Tables: []api.Table{{Keys: make([]api.Foreign, n)}}},
	} {
		if got := schema.Check(s); got != api.ErrForm {
			t.Fatalf("Check of the long schema %d: %d", i, got)
		}
	}
}

// checkLong is checkRefused without telling what was asked.
func checkLong(t *testing.T, d api.Ddl, want api.Errno) {
	t.Helper()
	if _, got := schema.Turn(rich(), d, api.Public); got != want {
		t.Fatalf("a long list: %d, not %d", got, want)
	}
}

func letters(n int) string {
	var s []byte
	for ; n > 0; n /= 26 {
		s = append(s, byte('a'+n%26))
	}
	return string(s)
}
