package schema_test

import (
	"reflect"
	"strings"
	"testing"

	"lintel/api"
	"lintel/schema"
)

const greatest = 1 << 50

func number(n int64) api.Value { return api.Value{Kind: api.Int, N: n} }

func text(s string) api.Value { return api.Value{Kind: api.Text, S: s} }

func long(s string, n int) string { return strings.Repeat(s, n) }

// rich answers a right schema with elements of all sorts in all states; no index and no foreign key is over b.
func rich() api.Schema {
	return api.Schema{Version: 7, Last: 30, Tables: []api.Table{
		{
			Id: 1, Name: "t",
			Columns: []api.Column{
				{Id: 2, Name: "a", Kind: api.Int, State: api.Public},
				{Id: 3, Name: "b", Kind: api.Text, State: api.Public, Default: text("x")},
				{Id: 4, Name: "c", Kind: api.Text, State: api.Public},
				{Id: 5, Name: "w", Kind: api.Int, State: api.WriteOnly, Default: number(5)},
				{Id: 6, Name: "d", Kind: api.Text, State: api.DeleteOnly, Default: text("")},
				{Id: 7, Name: "p", Kind: api.Int, State: api.Public},
			},
			Indexes: []api.Index{
				{Id: 8, Name: "pub", Column: 4, Unique: true, State: api.Public},
				{Id: 9, Name: "wri", Column: 4, State: api.WriteOnly},
				{Id: 10, Name: "del", Column: 2, State: api.DeleteOnly},
			},
			Keys: []api.Foreign{
				{Id: 11, Name: "pub", Column: 4, Parent: 20, State: api.Public},
				{Id: 12, Name: "wri", Column: 7, Parent: 1, State: api.WriteOnly},
				{Id: 13, Name: "del", Column: 2, Parent: 1, State: api.DeleteOnly},
			},
		},
		{
			Id: 20, Name: "u",
			Columns: []api.Column{{Id: 21, Name: "a", Kind: api.Text, State: api.Public}, {Id: 22, Name: "n", Kind: api.Int, State: api.Public}},
			Indexes: []api.Index{{Id: 23, Name: "pub", Column: 22, State: api.Public}},
			Keys:    []api.Foreign{{Id: 24, Name: "up", Column: 22, Parent: 1, State: api.Public}},
		},
		{Id: 30, Name: "v", Columns: []api.Column{{Id: 29, Name: "a", Kind: api.Int, State: api.Public}}},
	}}
}

// plainTable answers a table of one column that has the next two ids.
func plainTable(s *api.Schema, name string) api.Table {
	s.Last += 2
	return api.Table{Id: s.Last - 1, Name: name, Columns: []api.Column{{Id: s.Last, Name: "a", Kind: api.Int, State: api.Public}}}
}

// full answers rich with as many tables as may be, and t with as many elements of each sort.
func full() api.Schema {
	s := rich()
	for len(s.Tables) < api.MaxTables {
		s.Tables = append(s.Tables, plainTable(&s, "t"+string(rune('0'+len(s.Tables)))))
	}
	t := &s.Tables[0]
	next := func() int { s.Last++; return s.Last }
	for i := 0; len(t.Columns) < api.MaxParts; i++ {
		t.Columns = append(t.Columns, api.Column{Id: next(), Name: "x" + string(rune('0'+i)), Kind: api.Int, State: api.Public})
	}
	for i := 0; len(t.Indexes) < api.MaxParts; i++ {
		t.Indexes = append(t.Indexes, api.Index{Id: next(), Name: "x" + string(rune('0'+i)), Column: 4, State: api.Public})
	}
	for i := 0; len(t.Keys) < api.MaxParts; i++ {
		t.Keys = append(t.Keys, api.Foreign{Id: next(), Name: "x" + string(rune('0'+i)), Column: 2, Parent: 1, State: api.Public})
	}
	return s
}

// copyOf answers a schema that shares no memory; its empty lists are nil, so that they are all the same.
func copyOf(s api.Schema) api.Schema {
	tables := s.Tables
	s.Tables = nil
	for _, t := range tables {
		s.Tables = append(s.Tables, copyOfTable(t))
	}
	return s
}

func copyOfTable(t api.Table) api.Table {
	t.Columns = append([]api.Column(nil), t.Columns...)
	t.Indexes = append([]api.Index(nil), t.Indexes...)
	t.Keys = append([]api.Foreign(nil), t.Keys...)
	return t
}

func same(a, b api.Schema) bool { return reflect.DeepEqual(copyOf(a), copyOf(b)) }

func checkSame(t *testing.T, got, want api.Schema) {
	t.Helper()
	if !same(got, want) {
		t.Fatalf("the schema is\n%+v, not\n%+v", got, want)
	}
}

func checkIs(t *testing.T, s api.Schema, want api.Errno) {
	t.Helper()
	if got := schema.Check(s); got != want {
		t.Fatalf("Check(%+v): %d, not %d", s, got, want)
	}
}

// P15.1
func TestRight(t *testing.T) {
	for _, s := range []api.Schema{
		{},
		{Tables: []api.Table{}},
		{Version: greatest, Last: greatest},
		rich(),
		full(),
	} {
		checkIs(t, s, api.OK)
		s.Version, s.Last = greatest, greatest
		checkIs(t, s, api.OK)
		s.Version = 0
		checkIs(t, s, api.OK)
	}
}

// P15.1: each of these makes a right schema wrong, whatever else there is.
func TestWrong(t *testing.T) {
	for name, spoil := range spoilers() {
		for _, s := range []api.Schema{rich(), full()} {
			spoil(&s)
			if got := schema.Check(s); got != api.ErrForm {
				t.Errorf("%s: %d, not ErrForm", name, got)
			}
		}
	}
}

func spoilers() map[string]func(s *api.Schema) {
	first := func(s *api.Schema) *api.Table { return &s.Tables[0] }
	return map[string]func(s *api.Schema){
		"version below 0":     func(s *api.Schema) { s.Version = -1 },
		"version too great":   func(s *api.Schema) { s.Version = greatest + 1 },
		"last below 0":        func(s *api.Schema) { s.Last = -1 },
		"last too great":      func(s *api.Schema) { s.Last = greatest + 1 },
		"last below an id":    func(s *api.Schema) { s.Last = 29 },
		"too many tables":     tooManyTables,
		"id 0 of a table":     func(s *api.Schema) { s.Tables[2].Id = 0 },
		"id below 0":          func(s *api.Schema) { s.Tables[2].Columns[0].Id = -1 },
		"id of an index":      func(s *api.Schema) { first(s).Indexes[1].Id = s.Last + 1 },
		"id of a foreign key": func(s *api.Schema) { first(s).Keys[1].Id = 0 },
		"id of a column":      func(s *api.Schema) { first(s).Columns[1].Id = s.Last + 1 },
		"two tables' id":      func(s *api.Schema) { s.Tables[2].Id = 1 },
		"table's and column's id": func(s *api.Schema) {
			s.Tables[2].Id = 3
		},
		"two columns' id":              func(s *api.Schema) { first(s).Columns[1].Id = 6 },
		"two indexes' id":              func(s *api.Schema) { first(s).Indexes[0].Id = 9 },
		"two foreign keys' id":         func(s *api.Schema) { first(s).Keys[0].Id = 12 },
		"index's and foreign key's id": func(s *api.Schema) { first(s).Indexes[0].Id = 24 },
		"column's and index's id":      func(s *api.Schema) { first(s).Columns[1].Id = 23 },
		"table's name":                 func(s *api.Schema) { s.Tables[2].Name = "" },
		"column's name":                func(s *api.Schema) { first(s).Columns[3].Name = "A" },
		"index's name":                 func(s *api.Schema) { first(s).Indexes[1].Name = "_" },
		"foreign key's name":           func(s *api.Schema) { first(s).Keys[1].Name = "1" },
		"two tables' name":             func(s *api.Schema) { s.Tables[2].Name = "t" },
		"two columns' name":            func(s *api.Schema) { first(s).Columns[1].Name = "d" },
		"two indexes' name":            func(s *api.Schema) { first(s).Indexes[0].Name = "del" },
		"two foreign keys' name":       func(s *api.Schema) { first(s).Keys[0].Name = "del" },
		"no columns":                   func(s *api.Schema) { s.Tables[2].Columns = nil },
		"no columns of a parent":       func(s *api.Schema) { s.Tables[1] = api.Table{Id: 20, Name: "u"} },
		"column Absent":                func(s *api.Schema) { first(s).Columns[1].State = api.Absent },
		"column's state 4":             func(s *api.Schema) { first(s).Columns[1].State = 4 },
		"index Absent":                 func(s *api.Schema) { first(s).Indexes[1].State = api.Absent },
		"index's state -1":             func(s *api.Schema) { first(s).Indexes[1].State = -1 },
		"foreign key Absent":           func(s *api.Schema) { first(s).Keys[1].State = api.Absent },
		"foreign key's state 4":        func(s *api.Schema) { first(s).Keys[1].State = 4 },
		"kind Null":                    func(s *api.Schema) { first(s).Columns[1] = api.Column{Id: 3, Name: "b", State: api.Public} },
		"kind 3":                       func(s *api.Schema) { first(s).Columns[1].Kind, first(s).Columns[1].Default = 3, api.Value{Kind: 3} },
		"key WriteOnly":                func(s *api.Schema) { first(s).Columns[0].State = api.WriteOnly },
		"key DeleteOnly":               func(s *api.Schema) { s.Tables[2].Columns[0].State = api.DeleteOnly },
		"default of another kind":      func(s *api.Schema) { first(s).Columns[1].Default = number(1) },
		"default that may not be":      func(s *api.Schema) { first(s).Columns[1].Default = text(long("x", 65)) },
		"null that may not be":         func(s *api.Schema) { first(s).Columns[1].Default = api.Value{N: 1} },
		"number that may not be":       func(s *api.Schema) { first(s).Columns[3].Default.S = "x" },
		"index over nothing":           func(s *api.Schema) { first(s).Indexes[1].Column = 0 },
		"index over another table's":   func(s *api.Schema) { first(s).Indexes[1].Column = 21 },
		"index over an index":          func(s *api.Schema) { first(s).Indexes[1].Column = 8 },
		"foreign key over nothing":     func(s *api.Schema) { first(s).Keys[1].Column = 0 },
		"foreign key over another's":   func(s *api.Schema) { first(s).Keys[1].Column = 22 },
		"no parent":                    func(s *api.Schema) { first(s).Keys[1].Parent = 0 },
		"a column as parent":           func(s *api.Schema) { first(s).Keys[1].Parent = 2 },
		"parent's key of another kind": func(s *api.Schema) { first(s).Keys[1].Parent = 20 },
		"column of another kind":       func(s *api.Schema) { first(s).Keys[1].Column = 3 },
		"another table's elements": func(s *api.Schema) {
			s.Tables[1].Indexes[0].Column = 2
		},
		"too many columns":      func(s *api.Schema) { tooMany(s, 0) },
		"too many indexes":      func(s *api.Schema) { tooMany(s, 1) },
		"too many foreign keys": func(s *api.Schema) { tooMany(s, 2) },
	}
}

func tooManyTables(s *api.Schema) {
	*s = full()
	s.Tables = append(s.Tables, plainTable(s, "x"))
}

// tooMany gives a full table one element more of a sort.
func tooMany(s *api.Schema, sort int) {
	*s = full()
	s.Last++
	t := &s.Tables[0]
	switch sort {
	case 0:
		t.Columns = append(t.Columns, api.Column{Id: s.Last, Name: "more", Kind: api.Int, State: api.Public})
	case 1:
		t.Indexes = append(t.Indexes, api.Index{Id: s.Last, Name: "more", Column: 2, State: api.Public})
	case 2:
		t.Keys = append(t.Keys, api.Foreign{Id: s.Last, Name: "more", Column: 2, Parent: 1, State: api.Public})
	}
}

// P15.1: as many indexes and foreign keys as MaxParts may be, however few columns there are.
func TestManyElementsOfFewColumns(t *testing.T) {
	s := api.Schema{Last: 2}
	s.Tables = []api.Table{{Id: 1, Name: "t", Columns: []api.Column{{Id: 2, Name: "a", Kind: api.Int, State: api.Public}}}}
	for i := range api.MaxParts {
		s.Tables[0].Indexes = append(s.Tables[0].Indexes, api.Index{Id: s.Last + 1, Name: "i" + string(rune('0'+i)), Column: 2, State: api.WriteOnly})
		s.Tables[0].Keys = append(s.Tables[0].Keys, api.Foreign{Id: s.Last + 2, Name: "i" + string(rune('0'+i)), Column: 2, Parent: 1, State: api.WriteOnly})
		s.Last += 2
		checkIs(t, s, api.OK)
	}
}

func names() map[string]bool {
	out := map[string]bool{
		"": false, "a": true, "z": true, "ab": true, "a0": true, "a9": true, "a_": true, "z_0_a_": true,
		"A": false, "aB": false, "0": false, "0a": false, "_": false, "_a": false, " a": false, "a ": false, "a\x00": false, "a\n": false,
		"a-": false, "a/": false, "a:": false, "a`": false, "a{": false, "{": false, "`": false, "é": false, "aé": false, "a\xff": false, "a'": false,
	}
	for n := 1; n < 40; n++ {
		out[long("a", n)] = n <= 16
		out["b"+long("_", n)] = n < 16
	}
	for c := range 256 {
		low, digit := c >= 'a' && c <= 'z', c >= '0' && c <= '9'
		out[string([]byte{byte(c)})] = low
		out[string([]byte{'a', byte(c)})] = low || digit || c == '_'
		out[string([]byte{'a', byte(c), 'b'})] = low || digit || c == '_'
	}
	return out
}

// P15.1, P15.3: which names may be, of tables and of elements of all sorts.
func TestNames(t *testing.T) {
	for name, may := range names() {
		want := api.ErrForm
		if may {
			want = api.OK
		}
		for _, put := range []func(s *api.Schema){
			func(s *api.Schema) { s.Tables[2].Name = name },
			func(s *api.Schema) { s.Tables[2].Columns[0].Name = name },
			func(s *api.Schema) { s.Tables[1].Indexes[0].Name = name },
			func(s *api.Schema) { s.Tables[1].Keys[0].Name = name },
		} {
			s := rich()
			put(&s)
			if s.Tables[2].Name != "t" && s.Tables[2].Name != "u" {
				checkIs(t, s, want)
			}
		}
		checkNewNames(t, name, want)
	}
}

// checkNewNames lets changes bring a name in.
func checkNewNames(t *testing.T, name string, want api.Errno) {
	t.Helper()
	for _, d := range []api.Ddl{
		{Kind: api.AddTable, Table: name, Columns: []api.Column{{Name: "a", Kind: api.Int}}},
		{Kind: api.AddTable, Table: "x", Columns: []api.Column{{Name: "nn", Kind: api.Int}, {Name: name, Kind: api.Int}}},
		{Kind: api.AddIndex, Table: "v", Name: name, Column: "a"},
		{Kind: api.AddForeign, Table: "v", Name: name, Column: "a", Parent: "v"},
		{Kind: api.AddColumn, Table: "v", Column: name, Type: api.Int},
	} {
		if isTaken := d.Table != "x" && (name == "t" || name == "u" || name == "v" || name == "a"); isTaken {
			continue
		}
		if _, got := schema.Turn(rich(), d, api.Public); got != want {
			t.Fatalf("the name %q, of %+v: %d, not %d", name, d, got, want)
		}
	}
}

// P15.1
func TestTable(t *testing.T) {
	s := rich()
	for i, name := range []string{"t", "u", "v"} {
		got, ok := schema.Table(s, name)
		if !ok || !reflect.DeepEqual(copyOfTable(got), copyOfTable(rich().Tables[i])) {
			t.Fatalf("Table(%q): %+v, %t", name, got, ok)
		}
	}
	for _, name := range []string{"", "a", "T", "t ", "pub", "tt", long("t", 1000)} {
		checkNoTable(t, s, name)
	}
	checkNoTable(t, api.Schema{}, "t")
	checkNoTable(t, api.Schema{}, "")
}

func checkNoTable(t *testing.T, s api.Schema, name string) {
	t.Helper()
	if got, ok := schema.Table(s, name); ok || !reflect.DeepEqual(got, api.Table{}) {
		t.Fatalf("Table(%q): %+v, %t, where there is none", name, got, ok)
	}
}

// P15.1: of two tables of one name the first one, and of a schema that isn't right too.
func TestTableFirst(t *testing.T) {
	s := api.Schema{Version: -1, Tables: []api.Table{{Id: 5, Name: "x"}, {Id: 6, Name: ""}, {Id: 7, Name: "x"}, {Id: 8, Name: ""}}}
	for name, id := range map[string]int{"x": 5, "": 6} {
		if got, ok := schema.Table(s, name); !ok || got.Id != id || got.Name != name {
			t.Fatalf("Table(%q): %+v, %t", name, got, ok)
		}
	}
}

// P15.4
func TestSeen(t *testing.T) {
	want := rich()
	first := &want.Tables[0]
	first.Columns = []api.Column{first.Columns[0], first.Columns[1], first.Columns[2], first.Columns[5]}
	first.Indexes = first.Indexes[:1]
	first.Keys = first.Keys[:1]
	got := schema.Seen(rich())
	checkSame(t, got, want)
	checkIs(t, got, api.OK)
	checkSame(t, schema.Seen(got), want)
	checkSame(t, schema.Seen(api.Schema{}), api.Schema{})
	checkSame(t, schema.Seen(api.Schema{Version: 3, Last: 4}), api.Schema{Version: 3, Last: 4})
}

// P15.4: a schema that isn't right has what is Public of it, too; an index that is Public stays, whatever its column is.
func TestSeenOfWrong(t *testing.T) {
	table := func(states ...int) api.Table {
		x := api.Table{Id: -3, Name: "?"}
		for i, state := range states {
			x.Columns = append(x.Columns, api.Column{Id: i, Kind: 9, State: state})
			x.Indexes = append(x.Indexes, api.Index{Id: i, Column: 1, State: state})
			x.Keys = append(x.Keys, api.Foreign{Id: i, Parent: 77, State: state})
		}
		return x
	}
	s := api.Schema{Version: -1, Last: -2, Tables: []api.Table{table(0, 1, 2, 4, -1), table(2, 3, 1, 3, 7, 0), {}}}
	want := api.Schema{Version: -1, Last: -2, Tables: []api.Table{
		{Id: -3, Name: "?"},
		{
			Id: -3, Name: "?",
			Columns: []api.Column{{Id: 1, Kind: 9, State: 3}, {Id: 3, Kind: 9, State: 3}},
			Indexes: []api.Index{{Id: 1, Column: 1, State: 3}, {Id: 3, Column: 1, State: 3}},
			Keys:    []api.Foreign{{Id: 1, Parent: 77, State: 3}, {Id: 3, Parent: 77, State: 3}},
		},
		{},
	}}
	checkSame(t, schema.Seen(s), want)
}
