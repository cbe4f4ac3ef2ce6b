package work_test

import (
	"reflect"
	"slices"
	"testing"

	"lintel/api"
	"lintel/rows"
	"lintel/work"
)

// stretch gives a list spare room with something in it.
func stretch[T any](list []T, spare T) []T {
	whole := append(append(make([]T, 0, len(list)+3), list...), spare, spare, spare)
	return whole[:len(list)]
}

// whole answers a list with its spare room.
func whole[T any](list []T) []T { return list[:cap(list)] }

// roomy answers the base schema, all lists with spare room: two calls answer the same in memory of their own.
func roomy() api.Schema {
	s := base()
	for i := range s.Tables {
		x := &s.Tables[i]
		x.Columns = stretch(x.Columns, api.Column{Id: 29, Name: "spare", Kind: api.Int, State: api.Public})
		x.Indexes = stretch(x.Indexes, api.Index{Id: 29, Name: "spare", Column: 3, State: api.Public})
		x.Keys = stretch(x.Keys, api.Foreign{Id: 29, Name: "spare", Column: 3, Parent: 13, State: api.Public})
	}
	s.Tables = stretch(s.Tables, api.Table{Id: 29, Name: "spare"})
	return s
}

// lists answers all that a schema and a job hold, with all spare room.
func lists(s api.Schema, j api.Job) []any {
	all := []any{whole(s.Tables), whole(j.Ddl.Columns)}
	for _, x := range s.Tables {
		all = append(all, whole(x.Columns), whole(x.Indexes), whole(x.Keys))
	}
	return all
}

// A task is a change, and a move of its job.
type task struct {
	d    api.Ddl
	move api.Move
}

func tasks() []task {
	return []task{
		{newIndex("i"), fill()}, {newIndex("w"), fill()}, {newColumn("e"), fill()}, {newForeign("f"), fill()}, {newForeign("g"), fill()},
		{newIndex("i"), sweep()}, {dropIndex("w"), sweep()},
	}
}

func (c task) job() api.Job {
	j := job(c.d, "")
	j.Ddl.Columns = stretch([]api.Column{{Name: "a", Kind: api.Int}}, api.Column{Name: "spare"})
	return j
}

// full answers a shop with four rows of t, their parents and some entries.
func full() *shop {
	s := newShop()
	for n := range int64(4) {
		s.row(1, rowOf(n+1, "x", number(10*(n+1)), number(n%2+3))...).row(13, cell(14, number(10*(n+1))))
		s.entry(9, text("x"), number(n)).entry(10, number(10*(n+1)), number(n+1))
	}
	return s
}

// A lender is a reader that keeps what it shows, with spare room in it, to look at it later.
type lender struct {
	*shop
	lent, fresh [][]api.Hit
}

func (l *lender) Span(p api.Span) []api.Hit {
	spare := api.Hit{Key: rows.Entry(10, number(10), number(99)), Ts: 7, Value: bytesOf(rowOf(50, "x", number(50), number(50))...)}
	list := stretch(l.shop.Span(p), spare)
	l.lent, l.fresh = append(l.lent, list), append(l.fresh, slices.Clone(whole(list)))
	return list
}

func (l *lender) checkLent(t *testing.T) {
	t.Helper()
	for i := range l.lent {
		if !slices.Equal(whole(l.lent[i]), l.fresh[i]) {
			t.Fatal("what the reader showed has changed")
		}
	}
}

// What is handed in stays as it is, its spare room too, and so does what the reader shows. Spare room isn't looked at.
func TestNothingIsChanged(t *testing.T) {
	for _, c := range tasks() {
		s, j := roomy(), c.job()
		r := &lender{shop: full()}
		if got, want := cut(t, s, j, c.move, r), cut(t, base(), job(c.d, ""), c.move, full()); !same(got, want) {
			t.Fatalf("%+v: %+v, not %+v", c, got, want)
		}
		if !reflect.DeepEqual(lists(s, j), lists(roomy(), c.job())) {
			t.Fatalf("%+v has changed what was handed in", c)
		}
		r.checkLent(t)
		d := c.d
		d.Name, d.Column = "spare", "spare"
		refused(t, s, job(d, ""), c.move, r, api.ErrArg)
		d.Table = "spare"
		refused(t, s, job(d, ""), c.move, r, api.ErrArg)
	}
}

// scribble writes over a piece, its spare room too.
func scribble(p work.Piece) {
	for _, r := range whole(p.Effect.Reads) {
		for i := range whole(r.Seen) {
			whole(r.Seen)[i] = api.Stamp{Key: "spoilt"}
		}
	}
	clear(whole(p.Effect.Reads))
	clear(whole(p.Effect.Writes))
}

// P23.4: what is told is new memory: writing over it is seen nowhere else, and writing over what was handed in or shown is not seen in it.
func TestAnswersAreNew(t *testing.T) {
	for _, c := range tasks() {
		s, j := roomy(), c.job()
		r := &lender{shop: full()}
		first, second := cut(t, s, j, c.move, r), cut(t, s, j, c.move, r)
		want := plain(second)
		scribble(first)
		if !reflect.DeepEqual(lists(s, j), lists(roomy(), c.job())) || !same(second, want) {
			t.Fatalf("%+v: an answer shares its memory", c)
		}
		r.checkLent(t)
		for i := range r.lent {
			clear(whole(r.lent[i]))
		}
		for _, x := range s.Tables {
			clear(whole(x.Columns))
			clear(whole(x.Indexes))
			clear(whole(x.Keys))
		}
		clear(whole(s.Tables))
		clear(whole(j.Ddl.Columns))
		if !same(second, want) {
			t.Fatalf("%+v: an answer is memory of what was handed in or shown", c)
		}
	}
}

// P23.4: no two lists of one answer share any memory.
func TestListsAreApart(t *testing.T) {
	for _, c := range tasks() {
		got := cut(t, base(), job(c.d, ""), c.move, full())
		want := plain(got)
		for i := range got.Effect.Reads {
			list := got.Effect.Reads[i].Seen
			for n := range whole(list) {
				whole(list)[n] = api.Stamp{Key: "spoilt"}
			}
			got.Effect.Reads[i].Seen = slices.Clone(want.Effect.Reads[i].Seen)
			if !same(got, want) {
				t.Fatalf("%+v: what was seen of the read %d is another one's", c, i)
			}
		}
	}
}

// A thrifty reader has one list, in which it shows everything.
type thrifty struct {
	*shop
	list []api.Hit
}

func (r *thrifty) Span(p api.Span) []api.Hit {
	r.list = append(r.list[:0], r.shop.Span(p)...)
	return r.list
}

// P23.2: what was seen is what the reader showed then, also if it uses its list again.
func TestReaderThatUsesItsListAgain(t *testing.T) {
	for _, c := range tasks() {
		checkCut(t, base(), job(c.d, ""), c.move, &thrifty{shop: full()}, cut(t, base(), job(c.d, ""), c.move, full()))
	}
}

// A fickle reader shows each span just once as it is, then otherwise.
type fickle struct {
	*shop
	had map[api.Span]int
}

func (r *fickle) Span(p api.Span) []api.Hit {
	r.had[p]++
	if r.had[p] > 1 {
		return []api.Hit{{Key: p.From, Ts: 1, Value: "x"}}
	}
	return r.shop.Span(p)
}

// P23.2: a span is read once, also if several rows ask about it.
func TestReaderThatChangesItsMind(t *testing.T) {
	for _, c := range tasks() {
		same := full().row(1, rowOf(1, "x", number(10), number(4))...).row(1, rowOf(2, "x", number(10), number(4))...).row(1, rowOf(3, "x", number(10), number(4))...)
		checkCut(t, base(), job(c.d, ""), c.move, &fickle{same, map[api.Span]int{}}, cut(t, base(), job(c.d, ""), c.move, same))
	}
}

// A stubborn reader shows one list, whatever it is asked for.
type stubborn struct {
	list  []api.Hit
	asked []api.Span
}

func (r *stubborn) Span(p api.Span) []api.Hit {
	r.asked = append(r.asked, p)
	return r.list
}

// P23.2: hits are taken as the reader shows them, also if it shows one that isn't asked for, or one several times; and a span is read once, also if it is the first one's.
func TestReaderThatShowsAnything(t *testing.T) {
	odd := api.Hit{Key: "\xffodd", Ts: 4, Value: bytesOf(rowOf(1, "x", number(10), number(2))...)}
	r := &stubborn{list: []api.Hit{odd}}
	stamps := []api.Stamp{{Key: odd.Key, Ts: 4}}
	checkCut(t, base(), job(newIndex("i"), ""), fill(), r, work.Piece{
		Effect: api.Effect{Reads: []api.Read{{Span: span("", ""), Seen: stamps}}, Writes: entries(1)}, Mark: odd.Key, Over: true,
	})
	checkCut(t, base(), job(dropIndex("i"), ""), sweep(), r, work.Piece{
		Effect: api.Effect{Reads: []api.Read{{Span: rows.Index(9), Seen: stamps}}, Writes: []api.Write{gone(odd.Key)}}, Mark: odd.Key, Over: true,
	})
	// The key 512 ends with a byte 0: so the span above what stands ahead of that is the key's own, if it is all that is shown.
	key := keyOf(512)
	same := api.Hit{Key: key, Ts: 4, Value: bytesOf(rowOf(1, "x", api.Value{}, number(512))...)}
	r = &stubborn{list: []api.Hit{same, same, same, same}}
	three := []api.Stamp{{Key: key, Ts: 4}, {Key: key, Ts: 4}, {Key: key, Ts: 4}}
	checkCut(t, base(), job(newForeign("g"), key[:len(key)-1]), fill(), r, work.Piece{
		Effect: api.Effect{Reads: []api.Read{{Span: single(key), Seen: three}}}, Mark: key,
	})
	if len(r.asked) != 1 {
		t.Fatalf("asked for %q", r.asked)
	}
}
