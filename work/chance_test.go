package work_test

import (
	"maps"
	"math/rand"
	"slices"
	"testing"

	"lintel/api"
	"lintel/rows"
	"lintel/work"
)

// shape answers a schema whose elements' states, order and sorts are chance's: of two tables with numbers as keys and one with texts.
func shape(r *rand.Rand) api.Schema {
	state := func() int { return 1 + r.Intn(3) }
	column := func(id int, name string, kind int, v api.Value) api.Column {
		return api.Column{Id: id, Name: name, Kind: kind, State: state(), Default: v}
	}
	index := func(id int, name string, column int) api.Index {
		return api.Index{Id: id, Name: name, Column: column, Unique: r.Intn(3) > 0, State: state()}
	}
	foreign := func(id int, name string, column, parent int) api.Foreign {
		return api.Foreign{Id: id, Name: name, Column: column, Parent: parent, State: state()}
	}
	s := api.Schema{Version: 1, Last: 40, Tables: []api.Table{
		{Id: 1, Name: "t",
			Columns: []api.Column{column(2, "a", api.Int, number(3)), column(3, "b", api.Text, text("x")), column(4, "c", api.Int, number(1)), column(5, "d", api.Int, api.Value{})},
			Indexes: []api.Index{index(6, "a", 3), index(7, "b", 4), index(8, "c", 4), index(9, "d", 2)},
			Keys:    []api.Foreign{foreign(10, "b", 4, 1), foreign(11, "c", 5, 20), foreign(12, "d", 2, 20)},
		},
		{Id: 20, Name: "u",
			Columns: []api.Column{column(21, "a", api.Int, api.Value{}), column(22, "b", api.Int, number(2))},
			Indexes: []api.Index{index(23, "a", 22)},
			Keys:    []api.Foreign{foreign(24, "b", 22, 1), foreign(25, "c", 22, 20)},
		},
		{Id: 30, Name: "v",
			Columns: []api.Column{column(31, "a", api.Text, api.Value{}), column(32, "b", api.Text, text("y"))},
			Indexes: []api.Index{index(33, "a", 32)},
			Keys:    []api.Foreign{foreign(34, "b", 32, 30)},
		},
	}}
	for i := range s.Tables {
		x := &s.Tables[i]
		rest := x.Columns[1:]
		r.Shuffle(len(rest), func(i, j int) { rest[i], rest[j] = rest[j], rest[i] })
		r.Shuffle(len(x.Indexes), func(i, j int) { x.Indexes[i], x.Indexes[j] = x.Indexes[j], x.Indexes[i] })
		r.Shuffle(len(x.Keys), func(i, j int) { x.Keys[i], x.Keys[j] = x.Keys[j], x.Keys[i] })
		x.Columns[0].State = api.Public
	}
	r.Shuffle(len(s.Tables), func(i, j int) { s.Tables[i], s.Tables[j] = s.Tables[j], s.Tables[i] })
	return s
}

// some answers one of a few values of a kind, at times null.
func some(r *rand.Rand, kind int, nulls bool) api.Value {
	if nulls && r.Intn(6) == 0 {
		return api.Value{}
	}
	if kind == api.Int {
		return number(int64(r.Intn(9) - 1))
	}
	return text([]string{"", "x", "y", "z", "x\x00", "\xff"}[r.Intn(6)])
}

// stock answers a shop with some rows and some entries, a few of which are nobody's.
func stock(r *rand.Rand, s api.Schema) *shop {
	out := newShop()
	for _, t := range s.Tables {
		for range r.Intn(9) {
			list := []api.Cell{cell(t.Columns[0].Id, some(r, t.Columns[0].Kind, false))}
			for _, c := range t.Columns[1:] {
				if r.Intn(5) > 0 {
					list = append(list, cell(c.Id, some(r, c.Kind, true)))
				}
			}
			if r.Intn(5) == 0 {
				list = append(list, cell(99, text("of a column that is gone")))
			}
			out.row(t.Id, list...)
			for _, x := range t.Indexes {
				if r.Intn(3) == 0 {
					out.entry(x.Id, rows.Of(list, x.Column), list[0].Value)
				}
			}
		}
	}
	return out
}

// spoil takes keys away by chance, and puts there what lies in none, or is no row.
func spoil(r *rand.Rand, s api.Schema, x *shop) {
	for _, t := range s.Tables {
		k := some(r, t.Columns[0].Kind, true)
		switch r.Intn(6) {
		case 0:
			x.lay(rows.Row(t.Id, k), []string{"", "x", "\x00", bytesOf(cell(98, k))}[r.Intn(4)])
		case 1:
			x.lay(rows.Row(t.Id, k), bytesOf(cell(t.Columns[0].Id, some(r, t.Columns[0].Kind, true))))
		case 2:
			x.lay(rows.Row(t.Id, k)+"\x00", bytesOf(cell(t.Columns[0].Id, k)))
		case 3:
			i := t.Indexes[r.Intn(len(t.Indexes))].Id
			x.lay(rows.Equal(i, k).From+[]string{"", "x", "\x00", "\x01\x01"}[r.Intn(4)], "")
		case 4:
			x.entry(t.Indexes[r.Intn(len(t.Indexes))].Id, some(r, 1+r.Intn(2), true), some(r, 1+r.Intn(2), true))
		}
	}
}

// markOf answers a mark: one of the shop's keys, or one beside it, or none.
func markOf(r *rand.Rand, x *shop) string {
	keys := append(slices.Sorted(maps.Keys(x.hits)), "")
	key := keys[r.Intn(len(keys))]
	switch r.Intn(8) {
	case 0:
		return key + "\x00"
	case 1:
		return key[:r.Intn(len(key)+1)]
	case 2, 3, 4:
		return ""
	}
	return key
}

// taskOf answers a job and a move, most of them one that can be cut.
func taskOf(r *rand.Rand, x *shop) (api.Job, api.Move) {
	kinds := []int{api.AddIndex, api.AddIndex, api.AddColumn, api.AddForeign, api.AddForeign, api.DropIndex, api.AddTable, api.DropColumn, api.DropForeign}
	name := func() string { return []string{"a", "b", "b", "c", "d", "e"}[r.Intn(6)] }
	d := api.Ddl{Kind: kinds[r.Intn(len(kinds))], Table: []string{"t", "t", "t", "u", "v", "w"}[r.Intn(6)], Name: name(), Column: name()}
	m := api.Move{Kind: api.Fill}
	if d.Kind == api.DropIndex || r.Intn(8) == 0 {
		m.Kind = api.Sweep
	}
	if r.Intn(20) == 0 {
		m.Kind = r.Intn(7)
	}
	return api.Job{Id: 1 + r.Intn(3), Ddl: d, Phase: 3, Mark: markOf(r, x)}, m
}

// A sketch does a piece by the chapter's words, with everything in the shop in its hands.
type sketch struct {
	*shop
	spans  []api.Span
	writes []api.Write
	put    map[api.Value]bool
}

func (x *sketch) read(p api.Span) []api.Hit {
	if !slices.Contains(x.spans, p) {
		x.spans = append(x.spans, p)
	}
	return x.shown(p)
}

// cellsOf answers a hit's row by its columns' ids, or nil.
func cellsOf(h api.Hit) map[int]api.Value {
	list, err := rows.Get(h.Value)
	if err != api.OK || len(list) == 0 {
		return nil
	}
	out := map[int]api.Value{}
	for _, c := range list {
		out[c.Id] = c.Value
	}
	return out
}

// index, column and foreign do what a Fill does with a row that lies at a key.

func (x *sketch) index(i api.Index, k api.Value, row map[int]api.Value) api.Errno {
	v := row[i.Column]
	if i.Unique && v != (api.Value{}) {
		twice := x.put[v]
		for _, h := range x.read(rows.Equal(i.Id, v)) {
			for n := range x.all(i.Id, v) {
				twice = twice || n == h.Key && n != rows.Entry(i.Id, v, k)
			}
		}
		if twice {
			return api.ErrTwice
		}
	}
	x.put[v] = true
	x.writes = append(x.writes, put(rows.Entry(i.Id, v, k), ""))
	return api.OK
}

// all answers the keys of all entries of a value that there may be in these tests.
func (x *sketch) all(index int, v api.Value) map[string]bool {
	out := map[string]bool{}
	for _, k := range []api.Value{{}, text(""), text("x"), text("y"), text("z"), text("x\x00"), text("\xff")} {
		out[rows.Entry(index, v, k)] = true
	}
	for n := range int64(12) {
		out[rows.Entry(index, v, number(n-2))] = true
	}
	return out
}

func (x *sketch) column(c api.Column, key string, row map[int]api.Value) {
	if _, has := row[c.Id]; !has {
		row[c.Id] = c.Default
		var list []api.Cell
		for id, v := range row {
			list = append(list, cell(id, v))
		}
		x.writes = append(x.writes, put(key, bytesOf(list...)))
	}
}

func (x *sketch) foreign(t api.Table, f api.Foreign, k api.Value, row map[int]api.Value) api.Errno {
	v := row[f.Column]
	if v == (api.Value{}) || f.Parent == t.Id && v == k {
		return api.OK
	}
	list := x.read(single(rows.Row(f.Parent, v)))
	if len(list) == 0 || cellsOf(list[0]) == nil {
		return api.ErrParent
	}
	return api.OK
}

// each does what the move does with one hit.
func (x *sketch) each(t api.Table, j api.Job, m api.Move, h api.Hit) api.Errno {
	if m.Kind == api.Sweep {
		x.writes = append(x.writes, gone(h.Key))
		return api.OK
	}
	row := cellsOf(h)
	if row == nil {
		return api.OK
	}
	k := row[t.Columns[0].Id]
	for _, i := range t.Indexes {
		if j.Ddl.Kind == api.AddIndex && i.Name == j.Ddl.Name {
			return x.index(i, k, row)
		}
	}
	for _, c := range t.Columns {
		if j.Ddl.Kind == api.AddColumn && c.Name == j.Ddl.Column {
			x.column(c, h.Key, row)
		}
	}
	for _, f := range t.Keys {
		if j.Ddl.Kind == api.AddForeign && f.Name == j.Ddl.Name {
			return x.foreign(t, f, k, row)
		}
	}
	return api.OK
}

// scope answers the table and the keys that a job goes through, and whether there is that.
func scope(s api.Schema, j api.Job, m api.Move) (api.Table, api.Span, bool) {
	fills, sweeps := m.Kind == api.Fill, m.Kind == api.Sweep
	for _, t := range s.Tables {
		if t.Name != j.Ddl.Table {
			continue
		}
		p := rows.Table(t.Id)
		if j.Mark >= p.From {
			p.From = j.Mark + "\x00"
		}
		for _, x := range t.Indexes {
			if sweeps && x.Name == j.Ddl.Name && (j.Ddl.Kind == api.AddIndex || j.Ddl.Kind == api.DropIndex) {
				return t, rows.Index(x.Id), true
			}
			if fills && x.Name == j.Ddl.Name && j.Ddl.Kind == api.AddIndex {
				return t, p, true
			}
		}
		for _, x := range t.Columns {
			if fills && x.Name == j.Ddl.Column && j.Ddl.Kind == api.AddColumn {
				return t, p, true
			}
		}
		for _, x := range t.Keys {
			if fills && x.Name == j.Ddl.Name && j.Ddl.Kind == api.AddForeign {
				return t, p, true
			}
		}
	}
	return api.Table{}, api.Span{}, false
}

// drawn answers what Cut should.
func drawn(s api.Schema, j api.Job, m api.Move, r *shop) (work.Piece, api.Errno) {
	t, p, ok := scope(s, j, m)
	if !ok {
		return work.Piece{}, api.ErrArg
	}
	x := &sketch{shop: r, put: map[api.Value]bool{}}
	list := r.shown(p)
	out := work.Piece{Mark: j.Mark, Over: true}
	if len(list) > 3 {
		list, out.Over = list[:3], false
		p.To = list[2].Key + "\x00"
	}
	x.spans = append(x.spans, p)
	for _, h := range list {
		if why := x.each(t, j, m, h); why != api.OK {
			return work.Piece{Effect: api.Effect{Reads: seen(r, x.spans...)}, Mark: j.Mark, Why: why}, api.OK
		}
		out.Mark = h.Key
	}
	out.Effect = api.Effect{Reads: seen(r, x.spans...), Writes: x.writes}
	return out, api.OK
}

// P23.2: pieces of all sorts over stores of all sorts are as the chapter's words have them.
func TestPiecesByChance(t *testing.T) {
	r := rand.New(rand.NewSource(23))
	type sort struct {
		move, kind int
		over       bool
		why, err   api.Errno
	}
	count := map[sort]int{}
	for range 40000 {
		s := shape(r)
		x := stock(r, s)
		for range r.Intn(3) {
			spoil(r, s, x)
		}
		j, m := taskOf(r, x)
		want, wantErr := drawn(s, j, m, x)
		x.asked = nil
		got, err := work.Cut(s, j, m, x)
		if err != wantErr || !same(got, want) {
			t.Fatalf("%+v\n%v\n%+v, %+v:\n%+v, %d, not\n%+v, %d", s, x.hits, j, m, got, err, want, wantErr)
		}
		for i, p := range x.asked {
			if slices.Contains(x.asked[:i], p) {
				t.Fatalf("asked twice for %q", p)
			}
		}
		if err == api.OK {
			count[sort{m.Kind, j.Ddl.Kind, got.Over, got.Why, err}]++
		}
	}
	for _, over := range []bool{false, true} {
		for _, k := range []sort{
			{api.Fill, api.AddIndex, over, 0, 0}, {api.Fill, api.AddColumn, over, 0, 0}, {api.Fill, api.AddForeign, over, 0, 0},
			{api.Sweep, api.AddIndex, over, 0, 0}, {api.Sweep, api.DropIndex, over, 0, 0},
			{api.Fill, api.AddIndex, false, api.ErrTwice, 0}, {api.Fill, api.AddForeign, false, api.ErrParent, 0},
		} {
			if count[k] < 40 {
				t.Errorf("only %d of %+v", count[k], k)
			}
		}
	}
}
