package schema_test

import (
	"math/rand"
	"slices"
	"testing"

	"lintel/api"
	"lintel/schema"
)

// changes answers changes of all kinds, among them many that are refused.
func changes() []api.Ddl {
	list := []api.Ddl{
		newTable("x", column("a", api.Int)),
		newTable("t", columns(3)...),
		newTable("y", columns(8)...),
		newTable("z", columns(9)...),
	}
	for _, table := range []string{"t", "u", "v", "x", "y"} {
		for _, name := range []string{"i", "j", "pub", "wri", "del", "up"} {
			list = append(list,
				api.Ddl{Kind: api.DropIndex, Table: table, Name: name},
				api.Ddl{Kind: api.DropForeign, Table: table, Name: name},
			)
			for _, c := range []string{"a", "b", "n", "w"} {
				list = append(list,
					api.Ddl{Kind: api.AddIndex, Table: table, Name: name, Column: c, Unique: name == "i"},
					api.Ddl{Kind: api.AddForeign, Table: table, Name: name, Column: c, Parent: "t"},
					api.Ddl{Kind: api.AddForeign, Table: table, Name: name, Column: c, Parent: "u"},
				)
			}
		}
		for _, c := range []string{"a", "b", "c", "d", "n", "w", "e"} {
			list = append(list,
				api.Ddl{Kind: api.DropColumn, Table: table, Column: c},
				api.Ddl{Kind: api.AddColumn, Table: table, Column: c, Type: api.Int, Default: number(3)},
				api.Ddl{Kind: api.AddColumn, Table: table, Column: c, Type: api.Text},
			)
		}
	}
	return list
}

func adds(d api.Ddl) bool {
	return d.Kind == api.AddTable || d.Kind == api.AddIndex || d.Kind == api.AddColumn || d.Kind == api.AddForeign
}

// apart answers the state of a change's element (a table's is Public), and the schema without it, Version and Last.
func apart(s api.Schema, d api.Ddl) (int, api.Schema) {
	s = copyOf(s)
	s.Version, s.Last = 0, 0
	at := slices.IndexFunc(s.Tables, func(t api.Table) bool { return t.Name == d.Table })
	if at < 0 {
		return api.Absent, s
	}
	if d.Kind == api.AddTable {
		s.Tables = slices.Delete(s.Tables, at, at+1)
		return api.Public, s
	}
	t := &s.Tables[at]
	state := api.Absent
	switch d.Kind {
	case api.AddColumn, api.DropColumn:
		t.Columns = slices.DeleteFunc(t.Columns, func(c api.Column) bool {
			if c.Name == d.Column {
				state = c.State
			}
			return c.Name == d.Column
		})
	case api.AddIndex, api.DropIndex:
		t.Indexes = slices.DeleteFunc(t.Indexes, func(x api.Index) bool {
			if x.Name == d.Name {
				state = x.State
			}
			return x.Name == d.Name
		})
	default:
		t.Keys = slices.DeleteFunc(t.Keys, func(k api.Foreign) bool {
			if k.Name == d.Name {
				state = k.State
			}
			return k.Name == d.Name
		})
	}
	return state, s
}

// oneStep tells whether a state goes on by one step, of a foreign key as the chapter has it.
func oneStep(d api.Ddl, from, to int) bool {
	switch d.Kind {
	case api.AddTable:
		return from == api.Absent && to == api.Public
	case api.AddForeign:
		return from == api.Absent && to == api.WriteOnly || from == api.WriteOnly && to == api.Public || from == api.WriteOnly && to == api.Absent
	case api.DropForeign:
		return to == api.Absent
	}
	return to == from+1 || to == from-1
}

// walk takes a schema through moves, and looks at each of them; whether a state goes on by one step is told of an element that begins as the moves mean it.
func walk(t *testing.T, s api.Schema, d api.Ddl, path []api.Move, steps bool) api.Schema {
	t.Helper()
	for _, m := range path {
		if m.Kind != api.Bump && m.Kind != api.Still {
			continue
		}
		next := turned(t, s, d, m.State)
		from, before := apart(s, d)
		to, behind := apart(next, d)
		checkSame(t, behind, before)
		checkIs(t, next, api.OK)
		if to != m.State || steps && !oneStep(d, from, to) || next.Version != s.Version+1 || next.Last < s.Last {
			t.Fatalf("%+v, from %d to %d: %+v, then %+v", d, from, m.State, s, next)
		}
		s = next
	}
	return s
}

// checkThrough takes a change all its way, and, if it adds, from where it fills on back again.
func checkThrough(t *testing.T, s api.Schema, d api.Ddl) bool {
	t.Helper()
	path := schema.Path(d, false)
	if _, err := schema.Turn(s, d, path[0].State); err != api.OK {
		return false
	}
	begin, before := apart(s, d)
	steps := adds(d) && begin == api.Absent || !adds(d) && begin == api.Public
	want := api.Absent
	if adds(d) {
		want = api.Public
	}
	last := walk(t, s, d, path, steps)
	if end, behind := apart(last, d); end != want || !same(before, behind) {
		t.Fatalf("behind all moves of %+v the state is %d, not %d", d, end, want)
	}
	fill := slices.IndexFunc(path, func(m api.Move) bool { return m.Kind == api.Fill })
	if fill < 0 {
		return true
	}
	undone := walk(t, walk(t, s, d, path[:fill], steps), d, schema.Path(d, true), steps)
	if end, behind := apart(undone, d); end != api.Absent || !same(before, behind) {
		t.Fatalf("%+v, undone, is in the state %d: %+v", d, end, undone)
	}
	if begin == api.Absent {
		undone.Version, undone.Last = s.Version, s.Last
		checkSame(t, undone, s)
	}
	return true
}

// P15.5: changes that are not refused at first go through all their moves.
func TestChangesGoThrough(t *testing.T) {
	old := rich()
	old.Version, old.Last = 1<<49, 1<<49
	for _, s := range []api.Schema{rich(), full(), schema.Seen(rich()), old, {}} {
		kinds := map[int]int{}
		for _, d := range changes() {
			if checkThrough(t, s, d) {
				kinds[d.Kind]++
			}
		}
		if len(s.Tables) == 3 && len(kinds) != 7 {
			t.Fatalf("just %d kinds of changes were done", len(kinds))
		}
	}
}

// P15.3, P15.5: from the empty schema on all that Turn makes is right, whatever the states are that it is told; and now and then some change is taken all its way.
func TestTurnsByChance(t *testing.T) {
	r := rand.New(rand.NewSource(15))
	list := changes()
	done := map[int]int{}
	for range 40 {
		s := api.Schema{}
		for _, name := range []string{"t", "u"} {
			s = turned(t, s, newTable(name, column("a", 1+r.Intn(2)), column("b", api.Text)), api.Public)
		}
		for range 500 {
			d, state := list[r.Intn(len(list))], r.Intn(4)
			next, err := schema.Turn(s, d, state)
			if err != api.OK {
				checkSame(t, next, api.Schema{})
				continue
			}
			done[d.Kind]++
			checkTurned(t, s, next, d, state)
			s = next
			if r.Intn(4) == 0 {
				checkThrough(t, s, list[r.Intn(len(list))])
			}
		}
	}
	for kind := api.AddTable; kind <= api.DropForeign; kind++ {
		if done[kind] < 10 {
			t.Fatalf("the kind %d was done %d times: too rarely", kind, done[kind])
		}
	}
}

// checkTurned looks at what a change has made of a schema: nothing else is another one.
func checkTurned(t *testing.T, s, next api.Schema, d api.Ddl, state int) {
	t.Helper()
	from, before := apart(s, d)
	to, behind := apart(next, d)
	checkSame(t, behind, before)
	if !checkByWords(t, next) || to != state {
		t.Fatalf("Turn(%+v, %+v, %d): %+v", s, d, state, next)
	}
	last := s.Last
	if from == api.Absent {
		last += 1 + len(d.Columns)
	}
	if next.Last != last || next.Version != s.Version+1 {
		t.Fatalf("Turn(%+v, %d): Last is %d, not %d, the version %d", d, state, next.Last, last, next.Version)
	}
}
