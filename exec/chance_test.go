package exec_test

import (
	"maps"
	"math/rand"
	"slices"
	"testing"

	"lintel/api"
	"lintel/exec"
	"lintel/rows"
	"lintel/schema"
)

// shape answers a schema whose elements' states, order and sorts are chance's: three tables, two of them with numbers as keys, one with texts.
func shape(r *rand.Rand) api.Schema {
	state := func() int { return []int{1, 2, 2, 3, 3, 3, 3}[r.Intn(7)] }
	column := func(id int, name string, kind int, v api.Value) api.Column {
		return api.Column{Id: id, Name: name, Kind: kind, State: state(), Default: v}
	}
	index := func(id int, name string, column int) api.Index {
		return api.Index{Id: id, Name: name, Column: column, Unique: r.Intn(2) == 0, State: state()}
	}
	foreign := func(id int, name string, column, parent int) api.Foreign {
		return api.Foreign{Id: id, Name: name, Column: column, Parent: parent, State: state()}
	}
	s := api.Schema{Version: 1, Last: 40, Tables: []api.Table{
		{Id: 1, Name: "t",
			Columns: []api.Column{column(2, "a", api.Int, number(3)), column(3, "b", api.Text, text("x")), column(4, "c", api.Int, number(1)), column(5, "d", api.Int, api.Value{})},
			Indexes: []api.Index{index(6, "ib", 3), index(7, "ic", 4), index(8, "id", 4), index(9, "ia", 2)},
			Keys:    []api.Foreign{foreign(10, "fc", 4, 1), foreign(11, "fd", 5, 20), foreign(12, "fa", 2, 20)},
		},
		{Id: 20, Name: "u",
			Columns: []api.Column{column(21, "k", api.Int, api.Value{}), column(22, "n", api.Int, number(2))},
			Indexes: []api.Index{index(23, "in", 22)},
			Keys:    []api.Foreign{foreign(24, "fn", 22, 1), foreign(25, "fm", 22, 20)},
		},
		{Id: 30, Name: "v",
			Columns: []api.Column{column(31, "k", api.Text, api.Value{}), column(32, "m", api.Text, text("y"))},
			Indexes: []api.Index{index(33, "im", 32)},
			Keys:    []api.Foreign{foreign(34, "fv", 32, 30)},
		},
	}}
	for i := range s.Tables {
		x := &s.Tables[i]
		rest := x.Columns[1:]
		r.Shuffle(len(rest), func(i, j int) { rest[i], rest[j] = rest[j], rest[i] })
		r.Shuffle(len(x.Indexes), func(i, j int) { x.Indexes[i], x.Indexes[j] = x.Indexes[j], x.Indexes[i] })
		r.Shuffle(len(x.Keys), func(i, j int) { x.Keys[i], x.Keys[j] = x.Keys[j], x.Keys[i] })
		x.Columns[0].State = api.Public
		x.Indexes = x.Indexes[:r.Intn(len(x.Indexes)+1)]
		x.Keys = x.Keys[:r.Intn(len(x.Keys)+1)]
	}
	r.Shuffle(len(s.Tables), func(i, j int) { s.Tables[i], s.Tables[j] = s.Tables[j], s.Tables[i] })
	return s
}

// some answers one of a few values of a kind, at times null.
func some(r *rand.Rand, kind int, nulls bool) api.Value {
	if nulls && r.Intn(6) == 0 {
		return api.Value{}
	}
	if kind == api.Int {
		return number(int64(r.Intn(6) - 1))
	}
	return text([]string{"", "x", "y", "z", "x\x00"}[r.Intn(5)])
}

// stock answers a shop with some rows; the entries of indexes that count are just theirs, of others some of theirs.
func stock(r *rand.Rand, s api.Schema) *shop {
	out := newShop()
	for _, t := range s.Tables {
		for range r.Intn(6) {
			list := cells(cell(t.Columns[0].Id, some(r, t.Columns[0].Kind, false)))
			key := rows.Row(t.Id, list[0].Value)
			if _, there := out.hits[key]; there {
				continue
			}
			for _, c := range t.Columns[1:] {
				if r.Intn(5) > 0 {
					list = append(list, cell(c.Id, some(r, c.Kind, true)))
				}
			}
			if r.Intn(5) == 0 {
				list = append(list, cell(99, text("of a column that is gone")))
			}
			out.row(t.Id, list...)
			for _, x := range t.Indexes {
				if x.State != api.DeleteOnly || r.Intn(2) == 0 {
					out.entry(x.Id, rows.Of(list, x.Column), list[0].Value)
				}
			}
		}
	}
	return out
}

// spoil takes keys away by chance, and puts there what lies in none, or is no row.
func spoil(r *rand.Rand, s api.Schema, out *shop) {
	for _, key := range slices.Sorted(maps.Keys(out.hits)) {
		switch r.Intn(12) {
		case 0:
			delete(out.hits, key)
		case 1:
			out.lay(key, []string{"", "x", "\x00"}[r.Intn(3)])
		case 2:
			out.lay(key+"\x00", "x")
		}
	}
	for _, t := range s.Tables {
		for _, x := range t.Indexes {
			kind := columnOf(t, x.Column).Kind
			for range r.Intn(4) {
				out.entry(x.Id, some(r, kind, true), some(r, t.Columns[0].Kind, false))
			}
		}
	}
}

func columnOf(t api.Table, id int) api.Column {
	return t.Columns[slices.IndexFunc(t.Columns, func(c api.Column) bool { return c.Id == id })]
}

func public(t api.Table) []api.Column {
	return slices.DeleteFunc(slices.Clone(t.Columns), func(c api.Column) bool { return c.State != api.Public })
}

// statement answers one by chance: as Bind makes them, but for a few.
func statement(r *rand.Rand, s api.Schema) api.Bound {
	t := s.Tables[r.Intn(len(s.Tables))]
	b := api.Bound{Kind: []int{api.Insert, api.Insert, api.Insert, api.Update, api.Update, api.Delete, api.Select, api.Select}[r.Intn(8)], Table: t.Id}
	columns := public(t)
	if b.Kind == api.Insert {
		for i, c := range columns {
			b.Values = append(b.Values, some(r, c.Kind, i > 0))
		}
		return b
	}
	if b.Kind == api.Update {
		if len(columns) == 1 {
			b.Kind = api.Delete
		} else {
			c := columns[1+r.Intn(len(columns)-1)]
			b.Set, b.To = c.Id, some(r, c.Kind, true)
		}
	}
	if r.Intn(4) > 0 {
		c := columns[r.Intn(len(columns))]
		b.Where, b.Is = c.Id, some(r, c.Kind, true)
	}
	if r.Intn(60) == 0 {
		b.Kind, b.Where = 2+r.Intn(4), 77
	}
	return b
}

func texts(r *rand.Rand, s api.Schema) []api.Bound {
	var list []api.Bound
	for range 1 + r.Intn(4) {
		list = append(list, statement(r, s))
	}
	return list
}

// A world is another way than the program: all that is there now lies in one map, and what is read is noted at its side.
type world struct {
	schema api.Schema
	shop   *shop
	now    map[string]string
	wrote  map[string]api.Write
	reads  []api.Read
}

func newWorld(s api.Schema, r *shop) *world {
	w := &world{schema: s, shop: r, now: map[string]string{}, wrote: map[string]api.Write{}}
	for key, h := range r.hits {
		w.now[key] = h.Value
	}
	return w
}

// ask answers the keys of a span that are there now.
func (w *world) ask(p api.Span) []string {
	if !slices.ContainsFunc(w.reads, func(had api.Read) bool { return had.Span == p }) {
		w.reads = append(w.reads, read(w.shop, p)...)
	}
	var out []string
	for key := range w.now {
		if p.From <= key && key < p.To {
			out = append(out, key)
		}
	}
	slices.Sort(out)
	return out
}

// ofKeys answers the cells of those keys that have a row's bytes.
func (w *world) ofKeys(list []string) [][]api.Cell {
	var out [][]api.Cell
	for _, key := range list {
		if c, err := rows.Get(w.now[key]); err == api.OK && len(c) > 0 {
			out = append(out, c)
		}
	}
	return out
}

func (w *world) byKey(table int, k api.Value) [][]api.Cell {
	return w.ofKeys(w.ask(single(rows.Row(table, k))))
}

func (w *world) table(id int) api.Table {
	return w.schema.Tables[slices.IndexFunc(w.schema.Tables, func(t api.Table) bool { return t.Id == id })]
}

// owners answers the key values of an index's entries of a value.
func (w *world) owners(index int, v api.Value) []api.Value {
	var out []api.Value
	for _, key := range w.ask(rows.Equal(index, v)) {
		if k, _ := rows.Key(key); key == rows.Entry(index, v, k) {
			out = append(out, k)
		}
	}
	return out
}

func (w *world) meant(t api.Table, b api.Bound) [][]api.Cell {
	if b.Where == t.Columns[0].Id {
		return w.byKey(t.Id, b.Is)
	}
	for _, x := range t.Indexes {
		if b.Where != 0 && x.Column == b.Where && x.State == api.Public {
			var out [][]api.Cell
			for _, k := range w.owners(x.Id, b.Is) {
				out = append(out, w.byKey(t.Id, k)...)
			}
			return out
		}
	}
	var out [][]api.Cell
	for _, c := range w.ofKeys(w.ask(rows.Table(t.Id))) {
		if b.Where == 0 || rows.Of(c, b.Where) == b.Is {
			out = append(out, c)
		}
	}
	return out
}

func (w *world) change(t api.Table, old, new []api.Cell) {
	for _, x := range rows.Changes(t, old, new) {
		w.wrote[x.Key] = x
		w.now[x.Key] = x.Value
		if x.Dead {
			delete(w.now, x.Key)
		}
	}
}

// check looks at a row by the chapter's words, and writes it if it is as it should be.
func (w *world) check(t api.Table, old []api.Cell, next map[int]api.Value) api.Errno {
	for _, c := range t.Columns {
		if _, has := next[c.Id]; !has && c.State == api.WriteOnly {
			next[c.Id] = c.Default
		}
	}
	var new []api.Cell
	for _, id := range slices.Sorted(maps.Keys(next)) {
		new = append(new, cell(id, next[id]))
	}
	k := next[t.Columns[0].Id]
	for _, x := range t.Indexes {
		v := next[x.Column]
		if !x.Unique || x.State == api.DeleteOnly || v == (api.Value{}) || v == rows.Of(old, x.Column) {
			continue
		}
		for _, owner := range w.owners(x.Id, v) {
			if owner != k {
				return api.ErrTwice
			}
		}
	}
	for _, f := range t.Keys {
		v := next[f.Column]
		if f.State == api.DeleteOnly || v == (api.Value{}) || v == rows.Of(old, f.Column) {
			continue
		}
		there := len(w.byKey(f.Parent, v)) > 0
		if itself := f.Parent == t.Id && v == k; !there && !itself {
			return api.ErrParent
		}
	}
	w.change(t, old, new)
	return api.OK
}

// children tells whether a row is named by another one.
func (w *world) children(t api.Table, row []api.Cell) bool {
	k := rows.Of(row, t.Columns[0].Id)
	for _, child := range w.schema.Tables {
		for _, f := range child.Keys {
			if f.State == api.DeleteOnly || f.Parent != t.Id {
				continue
			}
			for _, key := range w.ask(rows.Table(child.Id)) {
				for _, c := range w.ofKeys([]string{key}) {
					if key != rows.Row(t.Id, k) && rows.Of(c, f.Column) == k {
						return true
					}
				}
			}
		}
	}
	return false
}

// do does a statement by the chapter's words.
func (w *world) do(b api.Bound) (api.Reply, api.Errno) {
	if b.Where == 77 || b.Kind > api.Select {
		return api.Reply{}, api.ErrArg
	}
	t := w.table(b.Table)
	columns := public(t)
	if b.Kind == api.Insert {
		if len(w.byKey(t.Id, b.Values[0])) > 0 {
			return api.Reply{}, api.ErrTwice
		}
		next := map[int]api.Value{}
		for i, c := range columns {
			next[c.Id] = b.Values[i]
		}
		return api.Reply{N: 1}, w.check(t, nil, next)
	}
	list := w.meant(t, b)
	out := api.Reply{N: len(list)}
	if b.Kind == api.Select {
		out.N = 0
	}
	for _, row := range list {
		next := map[int]api.Value{}
		for _, c := range row {
			next[c.Id] = c.Value
		}
		switch b.Kind {
		case api.Update:
			next[b.Set] = b.To
			if err := w.check(t, row, next); err != api.OK {
				return out, err
			}
		case api.Delete:
			if w.children(t, row) {
				return out, api.ErrChild
			}
			w.change(t, row, nil)
		case api.Select:
			var told []api.Value
			for _, c := range columns {
				told = append(told, next[c.Id])
			}
			out.Rows = append(out.Rows, told)
		}
	}
	return out, api.OK
}

// byWords answers what the chapter's words have for some statements.
func byWords(s api.Schema, list []api.Bound, r *shop) (api.Effect, int, api.Errno) {
	w := newWorld(s, r)
	var out api.Effect
	for i, b := range list {
		reply, err := w.do(b)
		if err != api.OK {
			return api.Effect{}, i, err
		}
		out.Replies = append(out.Replies, reply)
	}
	out.Reads = w.reads
	for _, key := range slices.Sorted(maps.Keys(w.wrote)) {
		out.Writes = append(out.Writes, w.wrote[key])
	}
	return out, 0, api.OK
}

// P21.1, P21.2: statements by chance, over schemas and rows by chance, some of them spoilt, against the chapter's words.
func TestByChance(t *testing.T) {
	r := rand.New(rand.NewSource(21))
	seen := map[api.Errno]int{}
	for n := range 30000 {
		s := shape(r)
		if schema.Check(s) != api.OK {
			t.Fatalf("%+v isn't right", s)
		}
		shop := stock(r, s)
		if n%3 == 0 {
			spoil(r, s, shop)
		}
		list := texts(r, s)
		want, wantAt, wantErr := byWords(s, list, shop)
		got, at, err := exec.Run(s, list, shop)
		if !same(got, want) || at != wantAt || err != wantErr {
			t.Fatalf("%+v\n%+v\n%v:\n%#v, %d, %d, not\n%#v, %d, %d", s, list, shop.hits, got, at, err, want, wantAt, wantErr)
		}
		for i, p := range shop.asked {
			if slices.Contains(shop.asked[:i], p) {
				t.Fatalf("asked for %q twice", p)
			}
		}
		seen[err]++
	}
	for _, err := range []api.Errno{api.OK, api.ErrArg, api.ErrTwice, api.ErrParent, api.ErrChild} {
		if seen[err] < 500 {
			t.Fatalf("%d was told %d times: too rarely", err, seen[err])
		}
	}
}
