package bind_test

import (
	"math/rand"
	"testing"

	"lintel/api"
	"lintel/bind"
	"lintel/schema"
	"lintel/value"
)

// said gathers all that is wrong with a statement, in the chapter's order: another way than the program, which ends at the first.
type said []api.Errno

func (w *said) say(wrong bool, err api.Errno) {
	if wrong {
		*w = append(*w, err)
	}
}

// of says what is wrong with a value, of a column of a kind.
func (w *said) of(v api.Value, kind int) {
	w.say(value.Check(v) != api.OK, api.ErrValue)
	w.say(v.Kind != api.Null && v.Kind != kind, api.ErrKind)
}

// names answers a table's Public columns by their names, and these in order.
func names(x api.Table) (map[string]api.Column, []string) {
	all, order := map[string]api.Column{}, []string{}
	for _, c := range x.Columns {
		if c.State == api.Public {
			all[c.Name] = c
			order = append(order, c.Name)
		}
	}
	return all, order
}

// byWords answers what is wrong with a statement by the chapter's words, and what it is bound to if that is nothing.
func byWords(s api.Schema, stmt api.Stmt) (said, api.Bound) {
	var w said
	if stmt.Kind != api.Insert && stmt.Kind != api.Update && stmt.Kind != api.Delete && stmt.Kind != api.Select {
		return said{api.ErrArg}, api.Bound{}
	}
	tables := map[string]api.Table{}
	for _, x := range s.Tables {
		tables[x.Name] = x
	}
	x, there := tables[stmt.Table]
	if !there {
		return said{api.ErrTable}, api.Bound{}
	}
	columns, order := names(x)
	want := api.Bound{Kind: stmt.Kind, Table: x.Id}
	if stmt.Kind == api.Insert {
		w.say(len(stmt.Values) != len(order), api.ErrCount)
		for i, v := range stmt.Values[:min(len(stmt.Values), len(order))] {
			w.say(value.Check(v) != api.OK, api.ErrValue)
			w.say(i == 0 && v.Kind == api.Null, api.ErrNull)
			w.say(v.Kind != api.Null && v.Kind != columns[order[i]].Kind, api.ErrKind)
		}
		want.Values = stmt.Values
		return w, want
	}
	if stmt.Kind == api.Update {
		c, there := columns[stmt.Set]
		w.say(!there, api.ErrColumn)
		w.say(stmt.Set == x.Columns[0].Name, api.ErrUsed)
		w.of(stmt.To, c.Kind)
		want.Set, want.To = c.Id, stmt.To
	}
	if stmt.Where != "" {
		c, there := columns[stmt.Where]
		w.say(!there, api.ErrColumn)
		w.of(stmt.Is, c.Kind)
		want.Where, want.Is = c.Id, stmt.Is
	}
	return w, want
}

// states gives elements of a schema other states by chance, but for the keys, and turns the kinds of some columns.
func states(r *rand.Rand, s *api.Schema) {
	for i := range s.Tables {
		x := &s.Tables[i]
		for j := range x.Columns {
			if j > 0 && r.Intn(2) == 0 {
				x.Columns[j].State = 1 + r.Intn(3)
			}
			if r.Intn(8) == 0 {
				x.Columns[j].Kind = 1 + r.Intn(2)
			}
		}
		for j := range x.Indexes {
			x.Indexes[j].State = 1 + r.Intn(3)
		}
		for j := range x.Keys {
			x.Keys[j].State = 1 + r.Intn(3)
		}
	}
}

// A maker makes statements by chance, most of them with little wrong.
type maker struct {
	r *rand.Rand
	s api.Schema
}

func (m maker) value(kind int) api.Value {
	switch m.r.Intn(12) {
	case 0:
		return api.Value{}
	case 1:
		return []api.Value{{Kind: 3}, {N: 1}, {S: "x"}, {Kind: api.Int, S: "x"}, {Kind: api.Text, N: 1}, text(long("x", 65))}[m.r.Intn(6)]
	case 2:
		kind = api.Int + api.Text - kind
	}
	if kind == api.Int {
		return number(m.r.Int63() - m.r.Int63())
	}
	return text(long("y", m.r.Intn(api.MaxText+1)))
}

// column answers a column of a table, most often, and its name; or a name of something else.
func (m maker) column(x api.Table) (string, int) {
	if m.r.Intn(12) == 0 {
		return []string{"none", "i", "n", "t", "w", "A"}[m.r.Intn(6)], api.Int
	}
	c := x.Columns[m.r.Intn(len(x.Columns))]
	return c.Name, c.Kind
}

func (m maker) stmt() api.Stmt {
	x := m.s.Tables[m.r.Intn(len(m.s.Tables))]
	stmt := api.Stmt{Kind: 1 + m.r.Intn(4), Table: x.Name}
	if m.r.Intn(20) == 0 {
		stmt.Kind = m.r.Intn(8) - 1
	}
	if m.r.Intn(20) == 0 {
		stmt.Table = "none"
	}
	for _, c := range x.Columns {
		if c.State == api.Public && m.r.Intn(30) > 0 || m.r.Intn(30) == 0 {
			stmt.Values = append(stmt.Values, m.value(c.Kind))
		}
	}
	var kind int
	stmt.Set, kind = m.column(x)
	stmt.To = m.value(kind)
	stmt.Where, kind = m.column(x)
	stmt.Is = m.value(kind)
	if m.r.Intn(3) == 0 {
		stmt.Where = ""
	}
	return stmt
}

// P19.1: statements by chance, over schemas by chance, against the chapter's words.
func TestByChance(t *testing.T) {
	r := rand.New(rand.NewSource(19))
	seen := map[api.Errno]int{}
	for range 20000 {
		m := maker{r, rich()}
		states(r, &m.s)
		if schema.Check(m.s) != api.OK {
			refused(t, m.s, []api.Stmt{m.stmt()}, 0, api.ErrForm)
			seen[api.ErrForm]++
			continue
		}
		var list []api.Stmt
		for range r.Intn(5) {
			list = append(list, m.stmt())
		}
		seen[checkByWords(t, m.s, list)]++
	}
	for _, err := range []api.Errno{
		api.OK, api.ErrForm, api.ErrArg, api.ErrTable, api.ErrCount, api.ErrValue, api.ErrNull, api.ErrKind, api.ErrColumn, api.ErrUsed,
	} {
		if seen[err] < 100 {
			t.Fatalf("%d was told %d times: too rarely", err, seen[err])
		}
	}
}

// checkByWords looks at a list of statements, and answers what it was told.
func checkByWords(t *testing.T, s api.Schema, list []api.Stmt) api.Errno {
	t.Helper()
	var want []api.Bound
	for i, stmt := range list {
		w, b := byWords(s, stmt)
		if len(w) > 0 {
			refused(t, s, list, i, w[0])
			return w[0]
		}
		want = append(want, b)
	}
	bound(t, s, list, want...)
	if again, _, _ := bind.Bind(s, list); !same(again, want) {
		t.Fatalf("Bind(%+v) answers otherwise a second time", list)
	}
	return api.OK
}
