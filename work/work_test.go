package work_test

import (
	"cmp"
	"maps"
	"reflect"
	"slices"
	"strings"
	"testing"

	"lintel/api"
	"lintel/rows"
	"lintel/schema"
	"lintel/work"
)

func number(n int64) api.Value { return api.Value{Kind: api.Int, N: n} }

func text(s string) api.Value { return api.Value{Kind: api.Text, S: s} }

func long(s string, n int) string { return strings.Repeat(s, n) }

func cell(id int, v api.Value) api.Cell { return api.Cell{Id: id, Value: v} }

// A shop is a reader: keys with their values and times. It notes what it is asked for.
type shop struct {
	hits  map[string]api.Hit
	asked []api.Span
}

func newShop() *shop { return &shop{hits: map[string]api.Hit{}} }

func (s *shop) Span(p api.Span) []api.Hit {
	s.asked = append(s.asked, p)
	return s.shown(p)
}

// shown answers the hits of a span without a note.
func (s *shop) shown(p api.Span) []api.Hit {
	var out []api.Hit
	for _, key := range slices.Sorted(maps.Keys(s.hits)) {
		if p.From <= key && key < p.To {
			out = append(out, s.hits[key])
		}
	}
	return out
}

// lay puts a key there, written at a time of its own.
func (s *shop) lay(key, value string) *shop {
	s.hits[key] = api.Hit{Key: key, Ts: 100 + len(s.hits), Value: value}
	return s
}

// row puts a row there, and nothing else.
func (s *shop) row(table int, list ...api.Cell) *shop {
	return s.lay(rows.Row(table, list[0].Value), bytesOf(list...))
}

// entry puts an entry there.
func (s *shop) entry(index int, v, k api.Value) *shop { return s.lay(rows.Entry(index, v, k), "") }

// wrote writes there what a piece writes.
func (s *shop) wrote(list []api.Write) *shop {
	for _, w := range list {
		if w.Dead {
			delete(s.hits, w.Key)
		} else {
			s.lay(w.Key, w.Value)
		}
	}
	return s
}

func bytesOf(list ...api.Cell) string {
	list = slices.Clone(list)
	slices.SortFunc(list, func(a, b api.Cell) int { return cmp.Compare(a.Id, b.Id) })
	s, err := rows.Put(list)
	if err != api.OK {
		panic("no row's bytes")
	}
	return s
}

// base answers three tables. Of t the key is a (2), a number; there are b (3), a text, c (4) and d (5), numbers, and e (6), WriteOnly, its Default 7;
// the indexes i over b (9) and w over c, unique (10), and the foreign keys f over c to u (11) and g over d to t itself (12), all WriteOnly.
// Of u the key is k (14), a number; of v m (16), a text.
func base() api.Schema {
	return api.Schema{Version: 9, Last: 30, Tables: []api.Table{
		{Id: 13, Name: "u", Columns: []api.Column{{Id: 14, Name: "k", Kind: api.Int, State: api.Public}}},
		{Id: 1, Name: "t",
			Columns: []api.Column{
				{Id: 2, Name: "a", Kind: api.Int, State: api.Public},
				{Id: 3, Name: "b", Kind: api.Text, State: api.Public},
				{Id: 4, Name: "c", Kind: api.Int, State: api.Public},
				{Id: 5, Name: "d", Kind: api.Int, State: api.Public},
				{Id: 6, Name: "e", Kind: api.Int, State: api.WriteOnly, Default: number(7)},
			},
			Indexes: []api.Index{
				{Id: 9, Name: "i", Column: 3, State: api.WriteOnly},
				{Id: 10, Name: "w", Column: 4, Unique: true, State: api.WriteOnly},
			},
			Keys: []api.Foreign{
				{Id: 11, Name: "f", Column: 4, Parent: 13, State: api.WriteOnly},
				{Id: 12, Name: "g", Column: 5, Parent: 1, State: api.WriteOnly},
			},
		},
		{Id: 15, Name: "v", Columns: []api.Column{{Id: 16, Name: "m", Kind: api.Text, State: api.Public}}},
	}}
}

// laid answers the base schema with something of t otherwise.
func laid(change func(t *api.Table)) api.Schema {
	s := base()
	change(&s.Tables[1])
	return s
}

// rowOf answers the cells of a row of t that has no e.
func rowOf(a int64, b string, c, d api.Value) []api.Cell {
	return []api.Cell{cell(2, number(a)), cell(3, text(b)), cell(4, c), cell(5, d)}
}

// five answers a shop with the rows 1 to 5 of t, each with b x, c ten times its key and d null.
func five() *shop {
	s := newShop()
	for n := range int64(5) {
		s.row(1, rowOf(n+1, "x", number(10*(n+1)), api.Value{})...)
	}
	return s
}

func keyOf(n int64) string { return rows.Row(1, number(n)) }

func above(key string) string { return key + "\x00" }

// single answers the span of one key.
func single(key string) api.Span { return api.Span{From: key, To: above(key)} }

// span answers the span of the rows of t above a key, up to another one; all of them behind it, if that is "".
func span(from, to string) api.Span {
	p := rows.Table(1)
	if from != "" {
		p.From = above(from)
	}
	if to != "" {
		p.To = above(to)
	}
	return p
}

func fill() api.Move { return api.Move{Kind: api.Fill} }

func sweep() api.Move { return api.Move{Kind: api.Sweep} }

func newIndex(name string) api.Ddl { return api.Ddl{Kind: api.AddIndex, Table: "t", Name: name} }

func dropIndex(name string) api.Ddl { return api.Ddl{Kind: api.DropIndex, Table: "t", Name: name} }

func newColumn(name string) api.Ddl { return api.Ddl{Kind: api.AddColumn, Table: "t", Column: name} }

func newForeign(name string) api.Ddl { return api.Ddl{Kind: api.AddForeign, Table: "t", Name: name} }

func job(d api.Ddl, mark string) api.Job { return api.Job{Id: 3, Ddl: d, Phase: 3, Mark: mark} }

func put(key, value string) api.Write { return api.Write{Key: key, Value: value} }

func gone(key string) api.Write { return api.Write{Key: key, Dead: true} }

// entries answers what is written for entries of the index i, of x and each of some rows.
func entries(list ...int64) []api.Write {
	var out []api.Write
	for _, n := range list {
		out = append(out, put(rows.Entry(9, text("x"), number(n)), ""))
	}
	return out
}

// seen answers what a shop shows of some spans.
func seen(s *shop, list ...api.Span) []api.Read {
	var out []api.Read
	for _, p := range list {
		x := api.Read{Span: p}
		for _, h := range s.shown(p) {
			x.Seen = append(x.Seen, api.Stamp{Key: h.Key, Ts: h.Ts})
		}
		out = append(out, x)
	}
	return out
}

// plain makes nil and empty lists one.
func plain(p work.Piece) work.Piece {
	var e api.Effect
	for _, r := range p.Effect.Reads {
		e.Reads = append(e.Reads, api.Read{Span: r.Span, Seen: append([]api.Stamp(nil), r.Seen...)})
	}
	e.Writes = append(e.Writes, p.Effect.Writes...)
	e.Replies = append(e.Replies, p.Effect.Replies...)
	p.Effect = e
	return p
}

func same(a, b work.Piece) bool { return reflect.DeepEqual(plain(a), plain(b)) }

// cut answers a piece, which there must be.
func cut(t *testing.T, s api.Schema, j api.Job, m api.Move, r api.Reader) work.Piece {
	t.Helper()
	p, err := work.Cut(s, j, m, r)
	if err != api.OK {
		t.Fatalf("Cut of %+v by %+v: %d", j, m, err)
	}
	return p
}

// checkCut looks at a whole piece.
func checkCut(t *testing.T, s api.Schema, j api.Job, m api.Move, r api.Reader, want work.Piece) {
	t.Helper()
	if got := cut(t, s, j, m, r); !same(got, want) {
		t.Fatalf("Cut of %+v by %+v:\n%+v, not\n%+v", j, m, got, want)
	}
}

// checkWhy looks at a piece that has a reason: what it has read, and nothing else.
func checkWhy(t *testing.T, s api.Schema, j api.Job, r *shop, why api.Errno, list ...api.Span) {
	t.Helper()
	checkCut(t, s, j, fill(), r, work.Piece{Effect: api.Effect{Reads: seen(r, list...)}, Mark: j.Mark, Why: why})
}

// refused looks whether there is no piece, and nothing else is told.
func refused(t *testing.T, s api.Schema, j api.Job, m api.Move, r api.Reader, want api.Errno) {
	t.Helper()
	if got, err := work.Cut(s, j, m, r); err != want || !same(got, work.Piece{}) {
		t.Fatalf("Cut of %+v by %+v: %+v, %d, not nothing, %d", j, m, got, err, want)
	}
}

// P23.2: the chapter's example.
func TestExample(t *testing.T) {
	s, r := base(), five()
	checkCut(t, s, job(newIndex("i"), ""), fill(), r, work.Piece{
		Effect: api.Effect{Reads: seen(r, span("", keyOf(3))), Writes: entries(1, 2, 3)}, Mark: keyOf(3),
	})
	checkCut(t, s, job(newIndex("i"), keyOf(3)), fill(), r, work.Piece{
		Effect: api.Effect{Reads: seen(r, span(keyOf(3), "")), Writes: entries(4, 5)}, Mark: keyOf(5), Over: true,
	})
}

// P23.2: the chapter's example, by a schema that its moves made, and with a board's job.
func TestExampleByTurns(t *testing.T) {
	d := api.Ddl{Kind: api.AddTable, Table: "t", Columns: []api.Column{{Name: "a", Kind: api.Int}, {Name: "b", Kind: api.Int}}}
	s, _ := schema.Turn(api.Schema{}, d, api.Public)
	d = api.Ddl{Kind: api.AddIndex, Table: "t", Name: "i", Column: "b"}
	for _, state := range []int{api.DeleteOnly, api.WriteOnly} {
		s, _ = schema.Turn(s, d, state)
	}
	r := newShop()
	var want []api.Write
	for n := range int64(5) {
		r.row(1, cell(2, number(n-2)), cell(3, number(7)))
		want = append(want, put(rows.Entry(4, number(7), number(n-2)), ""))
	}
	checkCut(t, s, job(d, ""), fill(), r, work.Piece{
		Effect: api.Effect{Reads: seen(r, span("", keyOf(0))), Writes: want[:3]}, Mark: keyOf(0),
	})
	checkCut(t, s, job(d, keyOf(0)), fill(), r, work.Piece{
		Effect: api.Effect{Reads: seen(r, span(keyOf(0), "")), Writes: want[3:]}, Mark: keyOf(2), Over: true,
	})
}
