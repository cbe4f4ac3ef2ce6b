package bind_test

import (
	"math"
	"reflect"
	"strings"
	"testing"

	"lintel/api"
	"lintel/bind"
	"lintel/parse"
	"lintel/schema"
)

func number(n int64) api.Value { return api.Value{Kind: api.Int, N: n} }

func text(s string) api.Value { return api.Value{Kind: api.Text, S: s} }

func long(s string, n int) string { return strings.Repeat(s, n) }

// rich answers a right schema with elements of all sorts in all states; the Public columns of t are a, b, c and e. The Public elements alone are right, too.
func rich() api.Schema {
	return api.Schema{Version: 9, Last: 40, Tables: []api.Table{
		{
			Id: 1, Name: "t",
			Columns: []api.Column{
				{Id: 2, Name: "a", Kind: api.Int, State: api.Public},
				{Id: 3, Name: "b", Kind: api.Text, State: api.Public, Default: text("x")},
				{Id: 4, Name: "w", Kind: api.Int, State: api.WriteOnly, Default: number(5)},
				{Id: 5, Name: "c", Kind: api.Int, State: api.Public},
				{Id: 6, Name: "d", Kind: api.Text, State: api.DeleteOnly},
				{Id: 7, Name: "e", Kind: api.Text, State: api.Public},
			},
			Indexes: []api.Index{
				{Id: 8, Name: "i", Column: 3, Unique: true, State: api.Public},
				{Id: 9, Name: "j", Column: 4, State: api.WriteOnly},
				{Id: 10, Name: "k", Column: 6, State: api.DeleteOnly},
			},
			Keys: []api.Foreign{
				{Id: 11, Name: "f", Column: 3, Parent: 20, State: api.Public},
				{Id: 12, Name: "g", Column: 4, Parent: 1, State: api.WriteOnly},
			},
		},
		{
			Id: 20, Name: "u",
			Columns: []api.Column{{Id: 22, Name: "k", Kind: api.Text, State: api.Public}, {Id: 21, Name: "n", Kind: api.Int, State: api.Public}},
		},
		{Id: 30, Name: "v", Columns: []api.Column{{Id: 31, Name: "a", Kind: api.Int, State: api.Public}}},
	}}
}

// plain makes nil of empty lists, which are one with it.
func plain(list []api.Bound) []api.Bound {
	var out []api.Bound
	for _, b := range list {
		b.Values = append([]api.Value(nil), b.Values...)
		out = append(out, b)
	}
	return out
}

func same(a, b []api.Bound) bool { return reflect.DeepEqual(plain(a), plain(b)) }

// bound looks at what statements are bound to.
func bound(t *testing.T, s api.Schema, list []api.Stmt, want ...api.Bound) {
	t.Helper()
	if got, at, err := bind.Bind(s, list); !same(got, want) || at != 0 || err != api.OK {
		t.Fatalf("Bind(%.400v): %+v, %d, %d, not %+v, 0, OK", list, got, at, err, want)
	}
}

// refused looks for an error, and at which place it is; nothing is bound then.
func refused(t *testing.T, s api.Schema, list []api.Stmt, at int, err api.Errno) {
	t.Helper()
	if got, gotAt, gotErr := bind.Bind(s, list); len(got) != 0 || gotAt != at || gotErr != err {
		t.Fatalf("Bind(%.400v): %+v, %d, %d, not none, %d, %d", list, got, gotAt, gotErr, at, err)
	}
}

// stmts answers the statements of a text.
func stmts(t *testing.T, s string) []api.Stmt {
	t.Helper()
	list, _, err := parse.Parse(s)
	if err != api.OK {
		t.Fatalf("Parse(%q): %d", s, err)
	}
	return list
}

// small answers the schema of the chapter's examples.
func small(t *testing.T) api.Schema {
	t.Helper()
	d := api.Ddl{Kind: api.AddTable, Table: "t", Columns: []api.Column{{Name: "a", Kind: api.Int}, {Name: "b", Kind: api.Text}}}
	s, err := schema.Turn(api.Schema{}, d, api.Public)
	if err != api.OK {
		t.Fatal(err)
	}
	return s
}

// P19.1: the chapter's examples.
func TestExamples(t *testing.T) {
	s := small(t)
	bound(t, s, stmts(t, "update t set b = 'x' where a = 5"),
		api.Bound{Kind: api.Update, Table: 1, Set: 3, To: text("x"), Where: 2, Is: number(5)})
	refused(t, s, stmts(t, "insert into t values (null, 'x')"), 0, api.ErrNull)
	refused(t, s, stmts(t, "insert into t values (1)"), 0, api.ErrCount)
	refused(t, s, stmts(t, "insert into t values (1, 2)"), 0, api.ErrKind)
}

// A sample is a text of one statement, and what it is bound to in rich.
type sample struct {
	text string
	want api.Bound
}

func samples() []sample {
	return []sample{
		{"insert into t values (5, 'x', 6, 'y')", api.Bound{Kind: api.Insert, Table: 1, Values: []api.Value{number(5), text("x"), number(6), text("y")}}},
		{"insert into t values (0, null, null, null)", api.Bound{Kind: api.Insert, Table: 1, Values: []api.Value{number(0), {}, {}, {}}}},
		{"insert into u values ('', 0)", api.Bound{Kind: api.Insert, Table: 20, Values: []api.Value{text(""), number(0)}}},
		{"insert into v values (-3)", api.Bound{Kind: api.Insert, Table: 30, Values: []api.Value{number(-3)}}},
		{"update t set b = 'x'", api.Bound{Kind: api.Update, Table: 1, Set: 3, To: text("x")}},
		{"update t set c = null", api.Bound{Kind: api.Update, Table: 1, Set: 5}},
		{"update t set e = 'x' where e = 'x'", api.Bound{Kind: api.Update, Table: 1, Set: 7, To: text("x"), Where: 7, Is: text("x")}},
		{"update t set c = 1 where b = null", api.Bound{Kind: api.Update, Table: 1, Set: 5, To: number(1), Where: 3}},
		{"update u set n = 1 where k = 'k'", api.Bound{Kind: api.Update, Table: 20, Set: 21, To: number(1), Where: 22, Is: text("k")}},
		{"delete from t", api.Bound{Kind: api.Delete, Table: 1}},
		{"delete from t where a = 0", api.Bound{Kind: api.Delete, Table: 1, Where: 2, Is: number(0)}},
		{"delete from t where a = null", api.Bound{Kind: api.Delete, Table: 1, Where: 2}},
		{"delete from v where a = 7", api.Bound{Kind: api.Delete, Table: 30, Where: 31, Is: number(7)}},
		{"select * from u", api.Bound{Kind: api.Select, Table: 20}},
		{"select * from u where n = 8", api.Bound{Kind: api.Select, Table: 20, Where: 21, Is: number(8)}},
		{"select * from t where c = null", api.Bound{Kind: api.Select, Table: 1, Where: 5}},
	}
}

// P19.1: each statement alone, and all of them behind one another, more than a text may have.
func TestSamples(t *testing.T) {
	var list []api.Stmt
	var want []api.Bound
	for _, c := range samples() {
		bound(t, rich(), stmts(t, c.text), c.want)
		list = append(list, stmts(t, c.text)...)
		want = append(want, c.want)
	}
	bound(t, rich(), list, want...)
}

// P19.1: no statements are bound to nothing, in any right schema.
func TestNoStatements(t *testing.T) {
	for _, s := range []api.Schema{{}, {Tables: []api.Table{}}, small(t), rich()} {
		bound(t, s, nil)
		bound(t, s, []api.Stmt{})
	}
}

// P19.1: a schema that isn't right is told first, whatever the statements are, and at 0.
func TestWrongSchema(t *testing.T) {
	for name, spoil := range map[string]func(s *api.Schema){
		"version":           func(s *api.Schema) { s.Version = -1 },
		"last":              func(s *api.Schema) { s.Last = 30 },
		"name":              func(s *api.Schema) { s.Tables[0].Name = "T" },
		"two tables":        func(s *api.Schema) { s.Tables[1].Name = "t" },
		"no columns":        func(s *api.Schema) { s.Tables[2].Columns = nil },
		"key":               func(s *api.Schema) { s.Tables[2].Columns[0].State = api.WriteOnly },
		"kind":              func(s *api.Schema) { s.Tables[1].Columns[1].Kind = 3 },
		"state":             func(s *api.Schema) { s.Tables[0].Columns[5].State = 4 },
		"absent":            func(s *api.Schema) { s.Tables[0].Columns[1].State = api.Absent },
		"two columns":       func(s *api.Schema) { s.Tables[0].Columns[3].Name = "b" },
		"parent":            func(s *api.Schema) { s.Tables[0].Keys[0].Parent = 30 },
		"hidden default":    func(s *api.Schema) { s.Tables[0].Columns[2].Default = text("x") },
		"hidden name":       func(s *api.Schema) { s.Tables[0].Columns[4].Name = "b" },
		"hidden index":      func(s *api.Schema) { s.Tables[0].Indexes[2].Column = 1 },
		"hidden foreign":    func(s *api.Schema) { s.Tables[0].Keys[1].Parent = 2 },
		"id":                func(s *api.Schema) { s.Tables[0].Columns[2].Id = 3 },
		"seven tables":      func(s *api.Schema) { s.Tables = make([]api.Table, 7) },
		"default of a text": func(s *api.Schema) { s.Tables[0].Columns[1].Default = text(long("x", 65)) },
	} {
		s := rich()
		spoil(&s)
		if schema.Check(s) != api.ErrForm {
			t.Fatalf("%s: the schema is right", name)
		}
		refused(t, s, nil, 0, api.ErrForm)
		refused(t, s, stmts(t, "select * from u"), 0, api.ErrForm)
		refused(t, s, []api.Stmt{{Kind: api.Select, Table: "u"}, {Kind: -1}}, 0, api.ErrForm)
		refused(t, s, []api.Stmt{{}}, 0, api.ErrForm)
	}
}

// P19.1: what is bound is what a right schema says at the greatest numbers and lists that may be.
func TestGreatSchema(t *testing.T) {
	const most = 1 << 50
	s := api.Schema{Version: most, Last: most}
	var list []api.Stmt
	var want []api.Bound
	for i := range api.MaxTables {
		table := api.Table{Id: most - 100*i, Name: long("x", api.MaxName-1) + string(rune('a'+i))}
		var values []api.Value
		for j := range api.MaxParts {
			kind := api.Int + (i+j)%2
			table.Columns = append(table.Columns, api.Column{Id: table.Id - 1 - j, Name: long("y", j+1), Kind: kind, State: api.Public})
			values = append(values, api.Value{Kind: kind})
		}
		s.Tables = append(s.Tables, table)
		last := table.Columns[api.MaxParts-1]
		list = append(list,
			api.Stmt{Kind: api.Insert, Table: table.Name, Values: values},
			api.Stmt{Kind: api.Update, Table: table.Name, Set: last.Name, Where: last.Name, Is: api.Value{Kind: last.Kind}},
		)
		want = append(want,
			api.Bound{Kind: api.Insert, Table: table.Id, Values: values},
			api.Bound{Kind: api.Update, Table: table.Id, Set: last.Id, Where: last.Id, Is: api.Value{Kind: last.Kind}},
		)
	}
	bound(t, s, list, want...)
}

// P19.1: no Kind but these four is bound, Change is not.
func TestKinds(t *testing.T) {
	for _, kind := range []int{math.MinInt, -1, 0, api.Change, 6, 1 << 32, 1<<32 + 1, math.MaxInt} {
		refused(t, rich(), []api.Stmt{{Kind: kind, Table: "v"}}, 0, api.ErrArg)
		refused(t, rich(), []api.Stmt{{Kind: kind, Table: "none"}}, 0, api.ErrArg)
	}
	for _, s := range []string{"create table x (a int)", "drop index i on t", "alter table t drop column c"} {
		refused(t, rich(), stmts(t, s), 0, api.ErrArg)
	}
	for kind := api.Update; kind <= api.Select; kind++ {
		bound(t, rich(), []api.Stmt{{Kind: kind, Table: "t", Set: "c"}}, map[int]api.Bound{
			api.Update: {Kind: api.Update, Table: 1, Set: 5},
			api.Delete: {Kind: api.Delete, Table: 1},
			api.Select: {Kind: api.Select, Table: 1},
		}[kind])
	}
}

// P19.1: a table is found by its whole name alone.
func TestTables(t *testing.T) {
	for _, name := range []string{"", "T", "tt", "t ", "w", "a", "i", "f", "1", "none", "t\x00", long("t", 1<<20)} {
		for kind := api.Insert; kind <= api.Select; kind++ {
			refused(t, rich(), []api.Stmt{{Kind: kind, Table: name}}, 0, api.ErrTable)
		}
	}
	for kind := api.Insert; kind <= api.Select; kind++ {
		refused(t, api.Schema{}, []api.Stmt{{Kind: kind, Table: "t"}}, 0, api.ErrTable)
	}
}

// P19.1: there is one value for each Public column, for no other one.
func TestCounts(t *testing.T) {
	row := []api.Value{number(1), text("x"), number(2), text("y"), number(3), text("z"), number(4), text("q"), number(5)}
	for n := range len(row) + 1 {
		list := []api.Stmt{{Kind: api.Insert, Table: "t", Values: row[:n]}}
		if n == 4 {
			bound(t, rich(), list, api.Bound{Kind: api.Insert, Table: 1, Values: row[:n]})
		} else {
			refused(t, rich(), list, 0, api.ErrCount)
		}
	}
	refused(t, rich(), []api.Stmt{{Kind: api.Insert, Table: "v"}}, 0, api.ErrCount)
	refused(t, rich(), []api.Stmt{{Kind: api.Insert, Table: "v", Values: []api.Value{}}}, 0, api.ErrCount)
	refused(t, rich(), []api.Stmt{{Kind: api.Insert, Table: "v", Values: make([]api.Value, 2)}}, 0, api.ErrCount)
	refused(t, rich(), []api.Stmt{{Kind: api.Insert, Table: "v", Values: make([]api.Value, 1<<20)}}, 0, api.ErrCount)
}

// trial is a value, and what is wrong with it in a column of numbers, and of texts; that it is null is wrong in neither.
type trial struct {
	v            api.Value
	inInt, inTxt api.Errno
}

func trials() []trial {
	return []trial{
		{api.Value{}, api.OK, api.OK},
		{number(0), api.OK, api.ErrKind},
		{number(-1), api.OK, api.ErrKind},
		{number(math.MinInt64), api.OK, api.ErrKind},
		{number(math.MaxInt64), api.OK, api.ErrKind},
		{text(""), api.ErrKind, api.OK},
		{text("null"), api.ErrKind, api.OK},
		{text("\x00\xff'"), api.ErrKind, api.OK},
		{text(long("x", api.MaxText)), api.ErrKind, api.OK},
		{text(long("x", api.MaxText+1)), api.ErrValue, api.ErrValue},
		{text(long("x", 1<<20)), api.ErrValue, api.ErrValue},
		{api.Value{N: 1}, api.ErrValue, api.ErrValue},
		{api.Value{S: "x"}, api.ErrValue, api.ErrValue},
		{api.Value{Kind: api.Int, S: "x"}, api.ErrValue, api.ErrValue},
		{api.Value{Kind: api.Text, N: 1}, api.ErrValue, api.ErrValue},
		{api.Value{Kind: api.Text, N: -1, S: "x"}, api.ErrValue, api.ErrValue},
		{api.Value{Kind: -1}, api.ErrValue, api.ErrValue},
		{api.Value{Kind: 3}, api.ErrValue, api.ErrValue},
		{api.Value{Kind: math.MaxInt}, api.ErrValue, api.ErrValue},
	}
}

// by answers what is wrong with the value in a column of a kind.
func (x trial) by(kind int) api.Errno {
	if kind == api.Int {
		return x.inInt
	}
	return x.inTxt
}

// P19.1: each value in each column, of Insert, Update and the three with a Where.
func TestValues(t *testing.T) {
	row := []api.Value{number(1), text("x"), number(2), text("y")}
	columns := []struct {
		id   int
		name string
		kind int
	}{{2, "a", api.Int}, {3, "b", api.Text}, {5, "c", api.Int}, {7, "e", api.Text}}
	for _, x := range trials() {
		for i, c := range columns {
			err := x.by(c.kind)
			values := append([]api.Value(nil), row...)
			values[i] = x.v
			inserted := err
			if i == 0 && x.v == (api.Value{}) {
				inserted = api.ErrNull
			}
			check(t, api.Stmt{Kind: api.Insert, Table: "t", Values: values}, inserted, api.Bound{Kind: api.Insert, Table: 1, Values: values})
			set := err
			if i == 0 {
				set = api.ErrUsed
			}
			check(t, api.Stmt{Kind: api.Update, Table: "t", Set: c.name, To: x.v}, set, api.Bound{Kind: api.Update, Table: 1, Set: c.id, To: x.v})
			check(t, api.Stmt{Kind: api.Update, Table: "t", Set: "c", To: number(9), Where: c.name, Is: x.v}, err,
				api.Bound{Kind: api.Update, Table: 1, Set: 5, To: number(9), Where: c.id, Is: x.v})
			for _, kind := range []int{api.Delete, api.Select} {
				check(t, api.Stmt{Kind: kind, Table: "t", Where: c.name, Is: x.v}, err, api.Bound{Kind: kind, Table: 1, Where: c.id, Is: x.v})
			}
		}
	}
}

// check looks at one statement, which is wrong so, or, if it is OK, is bound so, also in the middle of others.
func check(t *testing.T, stmt api.Stmt, err api.Errno, want api.Bound) {
	t.Helper()
	other, others := api.Stmt{Kind: api.Delete, Table: "v"}, api.Bound{Kind: api.Delete, Table: 30}
	if err != api.OK {
		refused(t, rich(), []api.Stmt{stmt}, 0, err)
		refused(t, rich(), []api.Stmt{other, stmt, {}}, 1, err)
		return
	}
	bound(t, rich(), []api.Stmt{stmt}, want)
	bound(t, rich(), []api.Stmt{other, stmt, other}, others, want, others)
}

// P19.1: a column is found by its whole name, among the Public ones of its own table alone.
func TestColumns(t *testing.T) {
	for _, name := range []string{"w", "d", "n", "k", "i", "f", "t", "A", "bb", "b ", "none", long("b", 1<<20)} {
		refused(t, rich(), []api.Stmt{{Kind: api.Update, Table: "t", Set: name}}, 0, api.ErrColumn)
		refused(t, rich(), []api.Stmt{{Kind: api.Update, Table: "t", Set: "c", Where: name}}, 0, api.ErrColumn)
		refused(t, rich(), []api.Stmt{{Kind: api.Delete, Table: "t", Where: name}}, 0, api.ErrColumn)
		refused(t, rich(), []api.Stmt{{Kind: api.Select, Table: "t", Where: name}}, 0, api.ErrColumn)
	}
	refused(t, rich(), []api.Stmt{{Kind: api.Update, Table: "t"}}, 0, api.ErrColumn)
	refused(t, rich(), []api.Stmt{{Kind: api.Update, Table: "u", Set: "b"}}, 0, api.ErrColumn)
	refused(t, rich(), []api.Stmt{{Kind: api.Select, Table: "u", Where: "a"}}, 0, api.ErrColumn)
}

// P19.1: the key is never set, whatever it were set to, in any table.
func TestKeyIsUsed(t *testing.T) {
	for table, key := range map[string]string{"t": "a", "u": "k", "v": "a"} {
		for _, x := range trials() {
			refused(t, rich(), []api.Stmt{{Kind: api.Update, Table: table, Set: key, To: x.v}}, 0, api.ErrUsed)
		}
	}
}

// P19.1: what a statement has no use for makes no difference, and what it is bound to has nothing of it.
func TestUnused(t *testing.T) {
	junk := api.Stmt{
		Values: []api.Value{{Kind: 9}, {N: 1}}, Set: "none", To: api.Value{Kind: 8}, Where: "none", Is: api.Value{Kind: 7},
		Ddl: api.Ddl{Kind: 99, Table: "none", Columns: make([]api.Column, 20)},
	}
	row := []api.Value{number(1)}
	insert := junk
	insert.Kind, insert.Table, insert.Values = api.Insert, "v", row
	bound(t, rich(), []api.Stmt{insert}, api.Bound{Kind: api.Insert, Table: 30, Values: row})
	update := junk
	update.Kind, update.Table, update.Set, update.To, update.Where = api.Update, "u", "n", number(5), ""
	bound(t, rich(), []api.Stmt{update}, api.Bound{Kind: api.Update, Table: 20, Set: 21, To: number(5)})
	for _, kind := range []int{api.Delete, api.Select} {
		all := junk
		all.Kind, all.Table, all.Where = kind, "t", ""
		bound(t, rich(), []api.Stmt{all}, api.Bound{Kind: kind, Table: 1})
		some := junk
		some.Kind, some.Table, some.Where, some.Is = kind, "t", "e", text("x")
		bound(t, rich(), []api.Stmt{some}, api.Bound{Kind: kind, Table: 1, Where: 7, Is: text("x")})
	}
}
