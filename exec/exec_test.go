package exec_test

import (
	"cmp"
	"maps"
	"reflect"
	"slices"
	"strings"
	"testing"

	"lintel/api"
	"lintel/bind"
	"lintel/exec"
	"lintel/parse"
	"lintel/rows"
	"lintel/schema"
)

func number(n int64) api.Value { return api.Value{Kind: api.Int, N: n} }

func text(s string) api.Value { return api.Value{Kind: api.Text, S: s} }

func long(s string, n int) string { return strings.Repeat(s, n) }

func cell(id int, v api.Value) api.Cell { return api.Cell{Id: id, Value: v} }

func cells(list ...api.Cell) []api.Cell { return list }

// A shop is a reader: keys with their values and times. It notes what it is asked for.
type shop struct {
	hits  map[string]api.Hit
	asked []api.Span
}

func newShop() *shop { return &shop{hits: map[string]api.Hit{}} }

func (s *shop) Span(p api.Span) []api.Hit {
	s.asked = append(s.asked, p)
	return s.shown(p)
}

// shown answers the hits of a span without a note.
func (s *shop) shown(p api.Span) []api.Hit {
	var out []api.Hit
	for _, key := range slices.Sorted(maps.Keys(s.hits)) {
		if p.From <= key && key < p.To {
			out = append(out, s.hits[key])
		}
	}
	return out
}

// lay puts a key there, written at a time of its own.
func (s *shop) lay(key, value string) *shop {
	s.hits[key] = api.Hit{Key: key, Ts: 100 + len(s.hits), Value: value}
	return s
}

// row puts a row there, and nothing else.
func (s *shop) row(table int, list ...api.Cell) *shop {
	slices.SortFunc(list, func(a, b api.Cell) int { return cmp.Compare(a.Id, b.Id) })
	return s.lay(rows.Row(table, list[0].Value), bytesOf(list...))
}

// entry puts an entry there.
func (s *shop) entry(index int, v, k api.Value) *shop { return s.lay(rows.Entry(index, v, k), "") }

func bytesOf(list ...api.Cell) string {
	s, err := rows.Put(list)
	if err != api.OK {
		panic("no row's bytes")
	}
	return s
}

// base answers two tables: t with a int (its key, 2) and b text (3), c int (4), d int (5); and u with k int (its key, 7) and p int (8).
// In the states that the element names tell: of t the index i over b is Public (9), and w, over c, WriteOnly and unique (10); of u the foreign key f, over p, has the parent t (11).
func base() api.Schema {
	return api.Schema{Version: 9, Last: 11, Tables: []api.Table{
		{Id: 1, Name: "t",
			Columns: []api.Column{
				{Id: 2, Name: "a", Kind: api.Int, State: api.Public},
				{Id: 3, Name: "b", Kind: api.Text, State: api.Public},
				{Id: 4, Name: "c", Kind: api.Int, State: api.Public},
				{Id: 5, Name: "d", Kind: api.Int, State: api.Public},
			},
			Indexes: []api.Index{
				{Id: 9, Name: "i", Column: 3, State: api.Public},
				{Id: 10, Name: "w", Column: 4, Unique: true, State: api.WriteOnly},
			},
		},
		{Id: 6, Name: "u",
			Columns: []api.Column{
				{Id: 7, Name: "k", Kind: api.Int, State: api.Public},
				{Id: 8, Name: "p", Kind: api.Int, State: api.Public},
			},
			Keys: []api.Foreign{{Id: 11, Name: "f", Column: 8, Parent: 1, State: api.Public}},
		},
	}}
}

// laid answers the base schema with one thing in it otherwise.
func laid(change func(t, u *api.Table)) api.Schema {
	s := base()
	change(&s.Tables[0], &s.Tables[1])
	return s
}

// statements answers a text's statements, bound by the schema.
func statements(t *testing.T, s api.Schema, line string) []api.Bound {
	t.Helper()
	list, at, err := parse.Parse(line)
	if err != api.OK {
		t.Fatalf("%s: %d at %d", line, err, at)
	}
	out, at, err := bind.Bind(s, list)
	if err != api.OK {
		t.Fatalf("%s: %d of the statement %d", line, err, at)
	}
	return out
}

// plain makes nil and empty lists one.
func plain(x api.Effect) api.Effect {
	var out api.Effect
	for _, r := range x.Reads {
		out.Reads = append(out.Reads, api.Read{Span: r.Span, Seen: append([]api.Stamp(nil), r.Seen...)})
	}
	out.Writes = append(out.Writes, x.Writes...)
	for _, r := range x.Replies {
		next := api.Reply{N: r.N}
		for _, list := range r.Rows {
			next.Rows = append(next.Rows, append([]api.Value(nil), list...))
		}
		out.Replies = append(out.Replies, next)
	}
	return out
}

func same(a, b api.Effect) bool { return reflect.DeepEqual(plain(a), plain(b)) }

// done answers what a text of statements has for an effect, which it must have.
func done(t *testing.T, s api.Schema, r api.Reader, line string) api.Effect {
	t.Helper()
	return run(t, s, statements(t, s, line), r)
}

// fails looks whether a text of statements is refused at a place, and nothing else is told.
func fails(t *testing.T, s api.Schema, r api.Reader, line string, at int, want api.Errno) {
	t.Helper()
	refused(t, s, statements(t, s, line), r, at, want)
}

// answers looks at what a text of statements is answered: OK and something, or an error and nothing but the place.
func answers(t *testing.T, s api.Schema, r api.Reader, line string, at int, want api.Errno) {
	t.Helper()
	if want == api.OK {
		done(t, s, r, line)
	} else {
		fails(t, s, r, line, at, want)
	}
}

func refused(t *testing.T, s api.Schema, list []api.Bound, r api.Reader, at int, want api.Errno) {
	t.Helper()
	x, gotAt, err := exec.Run(s, list, r)
	if gotAt != at || err != want || !same(x, api.Effect{}) {
		t.Fatalf("%+v:\n%#v, %d, %d, not nothing, %d, %d", list, x, gotAt, err, at, want)
	}
}

// single answers the span of one key.
func single(key string) api.Span { return api.Span{From: key, To: key + "\x00"} }

// read answers what was read of some spans, in order, as the shop shows them.
func read(s *shop, spans ...api.Span) []api.Read {
	var out []api.Read
	for _, p := range spans {
		x := api.Read{Span: p}
		for _, h := range s.shown(p) {
			x.Seen = append(x.Seen, api.Stamp{Key: h.Key, Ts: h.Ts})
		}
		out = append(out, x)
	}
	return out
}

// checkReads looks which spans were read, in order, and at what was seen there.
func checkReads(t *testing.T, x api.Effect, s *shop, spans ...api.Span) {
	t.Helper()
	want := api.Effect{Reads: read(s, spans...)}
	if !same(api.Effect{Reads: x.Reads}, want) {
		t.Fatalf("reads\n%#v, not\n%#v", x.Reads, want.Reads)
	}
	if !slices.Equal(s.asked, spans) {
		t.Fatalf("asked for %q, not once each %q", s.asked, spans)
	}
}

func checkWrites(t *testing.T, x api.Effect, want ...api.Write) {
	t.Helper()
	if !slices.Equal(x.Writes, want) {
		t.Fatalf("writes\n%#v, not\n%#v", x.Writes, want)
	}
}

func checkReplies(t *testing.T, x api.Effect, want ...api.Reply) {
	t.Helper()
	if !same(api.Effect{Replies: x.Replies}, api.Effect{Replies: want}) {
		t.Fatalf("tells\n%v, not\n%v", x.Replies, want)
	}
}

func counted(n int) api.Reply { return api.Reply{N: n} }

func found(list ...[]api.Value) api.Reply { return api.Reply{Rows: list} }

func values(list ...api.Value) []api.Value { return list }

func put(key string, list ...api.Cell) api.Write { return api.Write{Key: key, Value: bytesOf(list...)} }

func has(index int, v, k api.Value) api.Write { return api.Write{Key: rows.Entry(index, v, k)} }

func gone(key string) api.Write { return api.Write{Key: key, Dead: true} }

// P21.1, P21.2: the chapter's examples.
func TestExamples(t *testing.T) {
	d := api.Ddl{Kind: api.AddTable, Table: "t", Columns: []api.Column{{Name: "a", Kind: api.Int}, {Name: "b", Kind: api.Text}}}
	s, _ := schema.Turn(api.Schema{}, d, api.Public)
	r, key := newShop(), rows.Row(1, number(5))
	x := done(t, s, r, "insert into t values (5, 'x')")
	checkReads(t, x, r, single(key))
	checkWrites(t, x, put(key, cell(2, number(5)), cell(3, text("x"))))
	checkReplies(t, x, counted(1))
	fails(t, s, newShop(), "insert into t values (5, 'x'); insert into t values (5, 'x')", 1, api.ErrTwice)
}

// P21.2: no statements have no effect; one reply a statement, in order.
func TestReplies(t *testing.T) {
	r := newShop().row(6, cell(7, number(1)), cell(8, api.Value{}))
	x, at, err := exec.Run(base(), nil, r)
	if at != 0 || err != api.OK || !same(x, api.Effect{}) {
		t.Fatalf("of no statements: %#v, %d, %d", x, at, err)
	}
	if x, at, err := exec.Run(base(), []api.Bound{}, r); at != 0 || err != api.OK || !same(x, api.Effect{}) {
		t.Fatalf("of an empty list: %#v, %d, %d", x, at, err)
	}
	x = done(t, base(), r, "select * from u; insert into u values (2, null); update u set p = null; delete from u where k = 3; select * from u where p = 5; delete from u; select * from u; delete from u")
	checkReplies(t, x,
		found(values(number(1), api.Value{})), counted(1), counted(2), counted(0), found(), counted(2), found(), counted(0))
}

// run answers what statements have for an effect, which they must have.
func run(t *testing.T, s api.Schema, list []api.Bound, r api.Reader) api.Effect {
	t.Helper()
	x, at, err := exec.Run(s, list, r)
	if at != 0 || err != api.OK {
		t.Fatalf("%+v: %d, %d, not OK", list, at, err)
	}
	return x
}
