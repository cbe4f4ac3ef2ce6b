package schema_test

import (
	"math"
	"testing"

	"lintel/api"
	"lintel/schema"
)

func turned(t *testing.T, s api.Schema, d api.Ddl, state int) api.Schema {
	t.Helper()
	next, err := schema.Turn(s, d, state)
	if err != api.OK {
		t.Fatalf("Turn(%+v, %d): %d, not OK", d, state, err)
	}
	return next
}

// checkTurn looks for a schema that differs from s as told, and by the version.
func checkTurn(t *testing.T, s api.Schema, d api.Ddl, state int, differ func(want *api.Schema)) {
	t.Helper()
	want := copyOf(s)
	want.Version++
	differ(&want)
	checkSame(t, turned(t, s, d, state), want)
}

func checkRefused(t *testing.T, s api.Schema, d api.Ddl, state int, want api.Errno) {
	t.Helper()
	if next, err := schema.Turn(s, d, state); err != want || !same(next, api.Schema{}) {
		t.Fatalf("Turn(%+v, %d): %+v, %d, not nothing, %d", d, state, next, err, want)
	}
}

func newTable(name string, columns ...api.Column) api.Ddl {
	return api.Ddl{Kind: api.AddTable, Table: name, Columns: columns}
}

func column(name string, kind int) api.Column { return api.Column{Name: name, Kind: kind} }

// columns answers n columns of unlike names.
func columns(n int) []api.Column {
	var list []api.Column
	for i := range n {
		list = append(list, column("c"+string(rune('a'+i/26))+string(rune('a'+i%26)), api.Int+i%2))
	}
	return list
}

// P15.3, and through it the others: the chapter's examples.
func TestExamples(t *testing.T) {
	s := turned(t, api.Schema{}, newTable("t", column("a", api.Int), column("b", api.Text)), api.Public)
	want := api.Schema{Version: 1, Last: 3, Tables: []api.Table{{Id: 1, Name: "t", Columns: []api.Column{
		{Id: 2, Name: "a", Kind: api.Int, State: api.Public},
		{Id: 3, Name: "b", Kind: api.Text, State: api.Public},
	}}}}
	checkSame(t, s, want)
	s = turned(t, s, api.Ddl{Kind: api.AddIndex, Table: "t", Name: "i", Column: "b"}, api.DeleteOnly)
	want.Version, want.Last = 2, 4
	want.Tables[0].Indexes = []api.Index{{Id: 4, Name: "i", Column: 3, State: api.DeleteOnly}}
	checkSame(t, s, want)
	for state := api.Absent; state <= api.Public; state++ {
		checkRefused(t, s, api.Ddl{Kind: api.DropColumn, Table: "t", Column: "b"}, state, api.ErrUsed)
	}
}

// P15.3: a schema that isn't right, whatever is asked.
func TestTurnOfWrong(t *testing.T) {
	for _, spoil := range spoilers() {
		s := rich()
		spoil(&s)
		for kind := -1; kind <= api.DropForeign+1; kind++ {
			for state := -1; state <= api.Public+1; state++ {
				checkRefused(t, s, api.Ddl{Kind: kind, Table: "t", Name: "pub", Column: "b"}, state, api.ErrForm)
			}
		}
	}
}

// P15.3: states and kinds that are none.
func TestStrangeStatesAndKinds(t *testing.T) {
	for _, state := range []int{-1, 4, 5, 256 + api.Public, math.MaxInt, math.MinInt} {
		for kind := range api.DropForeign + 2 {
			checkRefused(t, rich(), api.Ddl{Kind: kind, Table: "t", Name: "pub", Column: "b"}, state, api.ErrForm)
		}
	}
	for _, kind := range []int{0, 8, -1, 256 + api.AddTable, math.MaxInt, math.MinInt} {
		for state := range api.Public + 1 {
			checkRefused(t, rich(), api.Ddl{Kind: kind, Table: "t", Name: "pub", Column: "b"}, state, api.ErrArg)
			checkRefused(t, rich(), api.Ddl{Kind: kind, Table: "none"}, state, api.ErrArg)
			checkRefused(t, api.Schema{}, api.Ddl{Kind: kind}, state, api.ErrArg)
		}
	}
}

// P15.3: a new table stands behind the others, with ids behind Last; of what its columns are told names and kinds alone matter.
func TestNewTable(t *testing.T) {
	told := []api.Column{
		{Id: 2, Name: "pub", Kind: api.Text, State: api.DeleteOnly, Default: text("x")},
		{Id: -9, Name: "a", Kind: api.Int, State: 77, Default: api.Value{Kind: 9}},
		{Name: "t", Kind: api.Text},
	}
	d := api.Ddl{Kind: api.AddTable, Table: "a", Name: "?", Column: "?", Parent: "?", Unique: true, Type: 9, Default: number(1), Columns: told}
	checkTurn(t, rich(), d, api.Public, func(want *api.Schema) {
		want.Last = 34
		want.Tables = append(want.Tables, api.Table{Id: 31, Name: "a", Columns: []api.Column{
			{Id: 32, Name: "pub", Kind: api.Text, State: api.Public},
			{Id: 33, Name: "a", Kind: api.Int, State: api.Public},
			{Id: 34, Name: "t", Kind: api.Text, State: api.Public},
		}})
	})
}

// P15.3: how many tables, and columns of a new one, there may be.
func TestHowManyTables(t *testing.T) {
	for n := range 40 {
		if n >= 1 && n <= 8 {
			checkIs(t, turned(t, rich(), newTable("x", columns(n)...), api.Public), api.OK)
		} else {
			checkRefused(t, rich(), newTable("x", columns(n)...), api.Public, api.ErrMany)
		}
	}
	s := api.Schema{}
	for i := range 6 {
		s = turned(t, s, newTable("t"+string(rune('a'+i)), columns(8)...), api.Public)
		if len(s.Tables) != i+1 || s.Last != 9*(i+1) || s.Version != i+1 || s.Tables[i].Id != 9*i+1 {
			t.Fatalf("the table %d: %+v", i, s)
		}
	}
	checkRefused(t, s, newTable("x", column("a", api.Int)), api.Public, api.ErrMany)
}

// P15.3: a column of a new table that may not be, at whichever place.
func TestStrangeColumns(t *testing.T) {
	for n := 1; n <= api.MaxParts; n++ {
		for at := range n {
			for _, name := range []string{"", "A", "a b", long("x", 17)} {
				list := columns(n)
				list[at].Name = name
				checkRefused(t, rich(), newTable("x", list...), api.Public, api.ErrForm)
			}
			for _, kind := range []int{api.Null, 3, -1, math.MaxInt} {
				list := columns(n)
				list[at].Kind = kind
				checkRefused(t, rich(), newTable("x", list...), api.Public, api.ErrKind)
			}
			for other := range at {
				list := columns(n)
				list[at].Name = list[other].Name
				checkRefused(t, rich(), newTable("x", list...), api.Public, api.ErrThere)
			}
		}
	}
	for state := api.Absent; state < api.Public; state++ {
		checkRefused(t, rich(), newTable("x", columns(2)...), state, api.ErrArg)
	}
}

// P15.3: an id is never given twice.
func TestIdsAreNotGivenAgain(t *testing.T) {
	s := rich()
	add := api.Ddl{Kind: api.AddIndex, Table: "t", Name: "i", Column: "b"}
	for id := 31; id < 40; id++ {
		s = turned(t, s, add, api.DeleteOnly)
		if last := s.Tables[0].Indexes[3]; last.Id != id || s.Last != id {
			t.Fatalf("the index has the id %d, Last is %d", last.Id, s.Last)
		}
		s = turned(t, s, add, api.Absent)
		if len(s.Tables[0].Indexes) != 3 || s.Last != id {
			t.Fatalf("there are %d indexes, Last is %d, not %d", len(s.Tables[0].Indexes), s.Last, id)
		}
	}
}

// P15.3: new elements of all sorts, in all states, with all that they were told.
func TestNewElements(t *testing.T) {
	for state := api.DeleteOnly; state <= api.Public; state++ {
		for _, unique := range []bool{false, true} {
			d := api.Ddl{Kind: api.AddIndex, Table: "t", Name: "i", Column: "b", Unique: unique, Parent: "?", Type: 9}
			checkTurn(t, rich(), d, state, func(want *api.Schema) {
				want.Last = 31
				want.Tables[0].Indexes = append(want.Tables[0].Indexes, api.Index{Id: 31, Name: "i", Column: 3, Unique: unique, State: state})
			})
		}
		for _, v := range []api.Value{{}, text(""), text(long("x", 64))} {
			d := api.Ddl{Kind: api.AddColumn, Table: "u", Column: "b", Type: api.Text, Default: v, Name: "?", Parent: "?", Unique: true}
			checkTurn(t, rich(), d, state, func(want *api.Schema) {
				want.Last = 31
				want.Tables[1].Columns = append(want.Tables[1].Columns, api.Column{Id: 31, Name: "b", Kind: api.Text, Default: v, State: state})
			})
		}
		d := api.Ddl{Kind: api.AddColumn, Table: "u", Column: "pub", Type: api.Int, Default: number(math.MinInt64)}
		checkTurn(t, rich(), d, state, func(want *api.Schema) {
			want.Last = 31
			want.Tables[1].Columns = append(want.Tables[1].Columns, api.Column{Id: 31, Name: "pub", Kind: api.Int, Default: number(math.MinInt64), State: state})
		})
		// The parent may be another table, or the table itself.
		for parent, id := range map[string]int{"v": 30, "t": 1} {
			d := api.Ddl{Kind: api.AddForeign, Table: "t", Name: "f", Column: "p", Parent: parent, Unique: true, Type: 9}
			checkTurn(t, rich(), d, state, func(want *api.Schema) {
				want.Last = 31
				want.Tables[0].Keys = append(want.Tables[0].Keys, api.Foreign{Id: 31, Name: "f", Column: 7, Parent: id, State: state})
			})
		}
	}
}

// P15.3: what is there is found by its name among those of its sort alone, and of its table alone.
func TestNamesOfOtherSorts(t *testing.T) {
	checkTurn(t, rich(), api.Ddl{Kind: api.AddIndex, Table: "u", Name: "up", Column: "a"}, api.DeleteOnly, func(want *api.Schema) {
		want.Last = 31
		want.Tables[1].Indexes = append(want.Tables[1].Indexes, api.Index{Id: 31, Name: "up", Column: 21, State: api.DeleteOnly})
	})
	checkTurn(t, rich(), api.Ddl{Kind: api.AddForeign, Table: "u", Name: "pub", Column: "a", Parent: "u"}, api.WriteOnly, func(want *api.Schema) {
		want.Last = 31
		want.Tables[1].Keys = append(want.Tables[1].Keys, api.Foreign{Id: 31, Name: "pub", Column: 21, Parent: 20, State: api.WriteOnly})
	})
	checkRefused(t, rich(), api.Ddl{Kind: api.DropIndex, Table: "u", Name: "up", Column: "n"}, api.Absent, api.ErrName)
	checkRefused(t, rich(), api.Ddl{Kind: api.DropIndex, Table: "u", Name: "wri"}, api.Absent, api.ErrName)
	checkRefused(t, rich(), api.Ddl{Kind: api.DropForeign, Table: "u", Name: "pub", Column: "n"}, api.Absent, api.ErrName)
	checkRefused(t, rich(), api.Ddl{Kind: api.DropColumn, Table: "u", Column: "pub", Name: "n"}, api.Absent, api.ErrColumn)
	checkRefused(t, rich(), api.Ddl{Kind: api.DropColumn, Table: "u", Column: "b"}, api.Absent, api.ErrColumn)
}

// P15.3: an element that a change adds, and that is there, changes its state, and nothing else, whatever else the change tells; one that is Public is in the way.
func TestAddWhatIsThere(t *testing.T) {
	told := api.Ddl{Table: "t", Unique: true, Type: 9, Default: api.Value{Kind: 9}, Parent: "none"}
	for state := api.Absent; state <= api.Public; state++ {
		for i, name := range []string{"wri", "del"} {
			d := told
			d.Kind, d.Name, d.Column = api.AddIndex, name, "none"
			checkTurn(t, full(), d, state, func(want *api.Schema) { setIndex(&want.Tables[0], 1+i, state) })
			d.Kind = api.AddForeign
			checkTurn(t, full(), d, state, func(want *api.Schema) { setForeign(&want.Tables[0], 1+i, state) })
		}
		for i, name := range []string{"w", "d"} {
			d := told
			d.Kind, d.Name, d.Column = api.AddColumn, "none", name
			checkTurn(t, full(), d, state, func(want *api.Schema) { setColumn(&want.Tables[0], 3+i, state) })
		}
		for _, d := range []api.Ddl{
			{Kind: api.AddIndex, Table: "t", Name: "pub", Column: "b"},
			{Kind: api.AddForeign, Table: "t", Name: "pub", Column: "none", Parent: "none"},
			{Kind: api.AddColumn, Table: "t", Column: "b", Type: 9},
			{Kind: api.AddColumn, Table: "t", Column: "a"},
		} {
			checkRefused(t, full(), d, state, api.ErrThere)
		}
	}
}

func setIndex(t *api.Table, at, state int) {
	t.Indexes[at].State = state
	if state == api.Absent {
		t.Indexes = append(t.Indexes[:at], t.Indexes[at+1:]...)
	}
}

func setForeign(t *api.Table, at, state int) {
	t.Keys[at].State = state
	if state == api.Absent {
		t.Keys = append(t.Keys[:at], t.Keys[at+1:]...)
	}
}

func setColumn(t *api.Table, at, state int) {
	t.Columns[at].State = state
	if state == api.Absent {
		t.Columns = append(t.Columns[:at], t.Columns[at+1:]...)
	}
}

// P15.3: what is dropped has the state that is told, whichever it had, or is gone.
func TestDrop(t *testing.T) {
	for state := api.Absent; state <= api.Public; state++ {
		for i, name := range []string{"pub", "wri", "del"} {
			checkTurn(t, rich(), api.Ddl{Kind: api.DropIndex, Table: "t", Name: name}, state, func(want *api.Schema) { setIndex(&want.Tables[0], i, state) })
			checkTurn(t, rich(), api.Ddl{Kind: api.DropForeign, Table: "t", Name: name}, state, func(want *api.Schema) { setForeign(&want.Tables[0], i, state) })
		}
		for i, name := range map[int]string{1: "b", 3: "w", 4: "d"} {
			checkTurn(t, rich(), api.Ddl{Kind: api.DropColumn, Table: "t", Column: name, Name: "?"}, state, func(want *api.Schema) { setColumn(&want.Tables[0], i, state) })
		}
		for _, d := range []api.Ddl{{Kind: api.DropIndex}, {Kind: api.DropForeign}, {Kind: api.DropIndex, Name: "b", Column: "b"}, {Kind: api.DropForeign, Name: "t"}} {
			d.Table = "t"
			checkRefused(t, rich(), d, state, api.ErrName)
		}
		for _, name := range []string{"", "none", "pub", "t"} {
			checkRefused(t, rich(), api.Ddl{Kind: api.DropColumn, Table: "t", Column: name, Name: "b"}, state, api.ErrColumn)
		}
	}
}

// P15.3: the key, and a column that is used, can't be dropped, in whichever state its user is.
func TestDropWhatIsUsed(t *testing.T) {
	for state := api.Absent; state <= api.Public; state++ {
		checkRefused(t, rich(), api.Ddl{Kind: api.DropColumn, Table: "v", Column: "a"}, state, api.ErrUsed)
		checkRefused(t, rich(), api.Ddl{Kind: api.DropColumn, Table: "t", Column: "c"}, state, api.ErrUsed)
		checkRefused(t, rich(), api.Ddl{Kind: api.DropColumn, Table: "t", Column: "p"}, state, api.ErrUsed)
		for user := api.DeleteOnly; user <= api.Public; user++ {
			s := turned(t, rich(), api.Ddl{Kind: api.AddIndex, Table: "t", Name: "i", Column: "b"}, user)
			checkRefused(t, s, api.Ddl{Kind: api.DropColumn, Table: "t", Column: "b"}, state, api.ErrUsed)
			s = turned(t, rich(), api.Ddl{Kind: api.AddForeign, Table: "t", Name: "f", Column: "b", Parent: "u"}, user)
			checkRefused(t, s, api.Ddl{Kind: api.DropColumn, Table: "t", Column: "b"}, state, api.ErrUsed)
			s = turned(t, s, api.Ddl{Kind: api.DropForeign, Table: "t", Name: "f"}, api.Absent)
			turned(t, s, api.Ddl{Kind: api.DropColumn, Table: "t", Column: "b"}, state)
		}
	}
}

// P15.3: no such table.
func TestNoTable(t *testing.T) {
	for kind := api.AddIndex; kind <= api.DropForeign; kind++ {
		for state := api.Absent; state <= api.Public; state++ {
			for _, name := range []string{"", "none", "T", "a", "pub"} {
				checkRefused(t, rich(), api.Ddl{Kind: kind, Table: name, Name: "pub", Column: "b", Parent: "u", Type: api.Int}, state, api.ErrTable)
			}
			checkRefused(t, api.Schema{}, api.Ddl{Kind: kind, Name: "x", Column: "b"}, state, api.ErrTable)
		}
	}
}

// P15.3: columns that are not there, or not Public, have no index and no foreign key, and these no parent but a table with a key of that kind.
func TestWrongElements(t *testing.T) {
	for _, name := range []string{"", "none", "w", "d", "B", "pub"} {
		for state := api.Absent; state <= api.Public; state++ {
			checkRefused(t, rich(), api.Ddl{Kind: api.AddIndex, Table: "t", Name: "i", Column: name}, state, api.ErrColumn)
			checkRefused(t, rich(), api.Ddl{Kind: api.AddForeign, Table: "t", Name: "i", Column: name, Parent: "t"}, state, api.ErrColumn)
		}
	}
	for _, name := range []string{"", "none", "a", "U"} {
		checkRefused(t, rich(), api.Ddl{Kind: api.AddForeign, Table: "t", Name: "i", Column: "a", Parent: name}, api.WriteOnly, api.ErrTable)
	}
	checkRefused(t, rich(), api.Ddl{Kind: api.AddForeign, Table: "t", Name: "i", Column: "a", Parent: "u"}, api.WriteOnly, api.ErrKind)
	checkRefused(t, rich(), api.Ddl{Kind: api.AddForeign, Table: "t", Name: "i", Column: "b", Parent: "t"}, api.WriteOnly, api.ErrKind)
	for _, d := range []api.Ddl{
		{}, {Type: 3}, {Type: -1}, {Type: math.MaxInt},
		{Type: api.Int, Default: text("")}, {Type: api.Text, Default: number(0)},
		{Type: api.Text, Default: text(long("x", 65))}, {Type: api.Text, Default: api.Value{Kind: api.Text, N: 1}},
		{Type: api.Int, Default: api.Value{Kind: api.Int, S: "x"}}, {Type: api.Int, Default: api.Value{N: 1}}, {Type: 3, Default: api.Value{Kind: 3}},
	} {
		d.Kind, d.Table, d.Column = api.AddColumn, "t", "x"
		checkRefused(t, rich(), d, api.DeleteOnly, api.ErrKind)
	}
}

// P15.3: a version or an id may come to be greater than a right schema's.
func TestTurnAtTheEnd(t *testing.T) {
	s := rich()
	s.Version, s.Last = greatest, greatest
	next := turned(t, s, newTable("x", column("a", api.Int)), api.Public)
	if next.Version != greatest+1 || next.Last != greatest+2 || next.Tables[3].Id != greatest+1 {
		t.Fatalf("%+v", next)
	}
	checkIs(t, next, api.ErrForm)
	checkRefused(t, next, newTable("y", column("a", api.Int)), api.Public, api.ErrForm)
}
