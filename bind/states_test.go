package bind_test

import (
	"math/rand"
	"slices"
	"testing"

	"lintel/api"
	"lintel/bind"
	"lintel/schema"
)

// copyOf answers a schema that shares no memory.
func copyOf(s api.Schema) api.Schema {
	s.Tables = slices.Clone(s.Tables)
	for i := range s.Tables {
		t := &s.Tables[i]
		t.Columns, t.Indexes, t.Keys = slices.Clone(t.Columns), slices.Clone(t.Indexes), slices.Clone(t.Keys)
	}
	return s
}

// probes answers statements of all kinds over all tables, with the names of columns and values of all sorts; among them there are many that are wrong.
func probes() []api.Stmt {
	var list []api.Stmt
	values := []api.Value{{}, number(5), text("x"), {Kind: 3}}
	row := []api.Value{number(1), text("x"), number(2), text("y"), number(3), text("z"), {}, {}, {}}
	texts := []api.Value{text("k"), number(2), {}, {}, {}}
	for _, table := range []string{"t", "u", "v", "x"} {
		for n := range row {
			list = append(list, api.Stmt{Kind: api.Insert, Table: table, Values: row[:n]}, api.Stmt{Kind: api.Insert, Table: table, Values: texts[:min(n, 5)]})
		}
		for _, column := range []string{"", "a", "b", "w", "c", "d", "e", "k", "n", "h0", "new"} {
			for _, v := range values {
				list = append(list,
					api.Stmt{Kind: api.Update, Table: table, Set: column, To: v},
					api.Stmt{Kind: api.Update, Table: table, Set: "c", Where: column, Is: v},
					api.Stmt{Kind: api.Delete, Table: table, Where: column, Is: v},
					api.Stmt{Kind: api.Select, Table: table, Where: column, Is: v},
				)
			}
		}
	}
	return list
}

// alike looks whether each statement is answered the same by two schemas, alone and all in one list, and answers how many of them are bound.
func alike(t *testing.T, a, b api.Schema, list []api.Stmt) int {
	t.Helper()
	good := 0
	for _, stmt := range list {
		one := []api.Stmt{stmt}
		gotA, atA, errA := bind.Bind(a, one)
		gotB, atB, errB := bind.Bind(b, one)
		if !same(gotA, gotB) || atA != atB || errA != errB {
			t.Fatalf("%+v:\n%+v, %d, %d by\n%+v\n%+v, %d, %d by\n%+v", stmt, gotA, atA, errA, a, gotB, atB, errB, b)
		}
		if errA == api.OK {
			good++
		}
	}
	_, atA, errA := bind.Bind(a, list)
	_, atB, errB := bind.Bind(b, list)
	if atA != atB || errA != errB {
		t.Fatalf("all in one list: %d, %d and %d, %d", atA, errA, atB, errB)
	}
	return good
}

// P19.2: elements that are not Public are there or not, that is one.
func TestHiddenElements(t *testing.T) {
	s := rich()
	if schema.Check(schema.Seen(s)) != api.OK {
		t.Fatal("the Public elements alone aren't right")
	}
	if good := alike(t, s, schema.Seen(s), probes()); good < 50 {
		t.Fatalf("just %d statements are bound", good)
	}
}

// hide puts elements that are not Public at places by chance into the tables of a schema; the key stays the first column.
func hide(r *rand.Rand, s api.Schema) api.Schema {
	s = copyOf(s)
	for i := range s.Tables {
		t := &s.Tables[i]
		for n := 0; len(t.Columns) < api.MaxParts && r.Intn(4) > 0; n++ {
			s.Last++
			c := api.Column{Id: s.Last, Name: "h" + string(rune('0'+n)), Kind: 1 + r.Intn(2), State: 1 + r.Intn(2)}
			t.Columns = slices.Insert(t.Columns, 1+r.Intn(len(t.Columns)), c)
		}
		over := t.Columns[r.Intn(len(t.Columns))]
		s.Last++
		x := api.Index{Id: s.Last, Name: "hx", Column: over.Id, Unique: r.Intn(2) == 0, State: 1 + r.Intn(2)}
		t.Indexes = slices.Insert(t.Indexes, r.Intn(len(t.Indexes)+1), x)
		if over.Kind == t.Columns[0].Kind {
			s.Last++
			k := api.Foreign{Id: s.Last, Name: "hk", Column: over.Id, Parent: t.Id, State: 1 + r.Intn(2)}
			t.Keys = slices.Insert(t.Keys, r.Intn(len(t.Keys)+1), k)
		}
	}
	return s
}

// P19.2: likewise of those that are put in by chance.
func TestHiddenByChance(t *testing.T) {
	r := rand.New(rand.NewSource(19))
	base, list := schema.Seen(rich()), probes()
	for range 60 {
		s := hide(r, base)
		if schema.Check(s) != api.OK {
			t.Fatalf("not right: %+v", s)
		}
		alike(t, s, base, list)
	}
}

// P19.2: whether a state that isn't Public is DeleteOnly or WriteOnly is one, too.
func TestHiddenStates(t *testing.T) {
	base := rich()
	for chosen := range 1 << 6 {
		s := copyOf(base)
		x := &s.Tables[0]
		for i, state := range []*int{&x.Columns[2].State, &x.Columns[4].State, &x.Indexes[1].State, &x.Indexes[2].State, &x.Keys[1].State} {
			*state = api.DeleteOnly + chosen>>i&1
		}
		if chosen>>5&1 == 1 {
			x.Columns[2].Kind, x.Columns[2].Default = api.Text, api.Value{}
			x.Keys = x.Keys[:1]
		}
		alike(t, s, base, probes())
	}
}

// P19.1, P19.2: where the Public elements alone are no right schema, the whole is what counts: an index that is Public may be over a column that isn't.
func TestHiddenColumnUnderIndex(t *testing.T) {
	s := rich()
	s.Tables[0].Columns[1].State = api.WriteOnly
	if schema.Check(s) != api.OK || schema.Check(schema.Seen(s)) != api.ErrForm {
		t.Fatal("the schema should be right as a whole alone")
	}
	bound(t, s, []api.Stmt{{Kind: api.Update, Table: "t", Set: "c", Where: "a", Is: number(1)}}, api.Bound{Kind: api.Update, Table: 1, Set: 5, Where: 2, Is: number(1)})
	refused(t, s, []api.Stmt{{Kind: api.Select, Table: "t", Where: "b"}}, 0, api.ErrColumn)
	refused(t, schema.Seen(s), []api.Stmt{{Kind: api.Select, Table: "t"}}, 0, api.ErrForm)
}

// P19.2: while a change goes through its moves nothing is answered otherwise but at the one move by which its column is Public, or is no more.
func TestThroughMoves(t *testing.T) {
	for _, d := range []api.Ddl{
		{Kind: api.AddColumn, Table: "u", Column: "new", Type: api.Int, Default: number(3)},
		{Kind: api.DropColumn, Table: "t", Column: "c"},
		{Kind: api.AddIndex, Table: "t", Name: "z", Column: "c", Unique: true},
		{Kind: api.DropIndex, Table: "t", Name: "i"},
		{Kind: api.AddForeign, Table: "t", Name: "z", Column: "e", Parent: "u"},
		{Kind: api.DropForeign, Table: "t", Name: "f"},
	} {
		throughPath(t, rich(), d, false)
		if half, err := schema.Turn(rich(), d, api.WriteOnly); err == api.OK && len(schema.Path(d, true)) > 0 {
			throughPath(t, half, d, true)
		}
	}
}

// throughPath makes the moves of a change, or those back, and looks at each of them.
func throughPath(t *testing.T, s api.Schema, d api.Ddl, back bool) {
	t.Helper()
	for _, m := range schema.Path(d, back) {
		if m.Kind == api.Bump || m.Kind == api.Still {
			s = throughMove(t, s, d, m.State)
		}
	}
}

// throughMove makes a move, and looks at the statements around it.
func throughMove(t *testing.T, s api.Schema, d api.Ddl, state int) api.Schema {
	t.Helper()
	next, err := schema.Turn(s, d, state)
	if err != api.OK {
		t.Fatalf("Turn(%+v, %d): %d", d, state, err)
	}
	was, is := publicColumn(s, d), publicColumn(next, d)
	if was == is || d.Kind != api.AddColumn && d.Kind != api.DropColumn {
		alike(t, s, next, probes())
		return next
	}
	stmt := api.Stmt{Kind: api.Update, Table: d.Table, Set: d.Column}
	if _, _, got := bind.Bind(next, []api.Stmt{stmt}); (got == api.OK) != is {
		t.Fatalf("%+v in the state %d: %d", d, state, got)
	}
	return next
}

// publicColumn tells whether a change's column is there and Public.
func publicColumn(s api.Schema, d api.Ddl) bool {
	x, _ := schema.Table(s, d.Table)
	return slices.ContainsFunc(x.Columns, func(c api.Column) bool { return c.Name == d.Column && c.State == api.Public })
}
