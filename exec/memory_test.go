package exec_test

import (
	"reflect"
	"slices"
	"testing"

	"lintel/api"
	"lintel/exec"
)

// stretch gives a list spare room with something in it.
func stretch[T any](list []T, spare T) []T {
	whole := append(append(make([]T, 0, len(list)+3), list...), spare, spare, spare)
	return whole[:len(list)]
}

// whole answers a list with its spare room.
func whole[T any](list []T) []T { return list[:cap(list)] }

// told answers what Run is told, all lists with spare room: two calls answer the same in memory of their own.
func told(t *testing.T) (api.Schema, []api.Bound) {
	s := linked(api.Public)
	for i := range s.Tables {
		x := &s.Tables[i]
		x.Columns = stretch(x.Columns, api.Column{Id: 99, Name: "spare", State: api.Public})
		x.Indexes = stretch(x.Indexes, api.Index{Id: 99, Name: "spare", Column: 3, State: api.Public})
		x.Keys = stretch(x.Keys, api.Foreign{Id: 99, Name: "spare", Column: 3, Parent: 6, State: api.Public})
	}
	s.Tables = stretch(s.Tables, api.Table{Id: 99, Name: "spare"})
	list := statements(t, s, "insert into t values (4, 'x', 14, 4); update t set d = 4; select * from t where b = 'x'; delete from u; update t set d = null; delete from t where a = 2; select * from t")
	for i := range list {
		list[i].Values = stretch(list[i].Values, number(77))
	}
	return s, stretch(list, api.Bound{Kind: -1})
}

// lists answers all that a schema and statements hold, with all spare room.
func lists(s api.Schema, list []api.Bound) []any {
	all := []any{whole(s.Tables), whole(list)}
	for _, x := range s.Tables {
		all = append(all, whole(x.Columns), whole(x.Indexes), whole(x.Keys))
	}
	for _, b := range list {
		all = append(all, whole(b.Values))
	}
	return all
}

// A lender is a reader that keeps what it shows, with spare room in it, to look at it later.
type lender struct {
	*shop
	lent, fresh [][]api.Hit
}

func (l *lender) Span(p api.Span) []api.Hit {
	spare := api.Hit{Key: keyOf(50), Ts: 7, Value: bytesOf(rowOf(number(50), text("x"), number(50), number(50))...)}
	list := stretch(l.shop.Span(p), spare)
	l.lent, l.fresh = append(l.lent, list), append(l.fresh, slices.Clone(whole(list)))
	return list
}

// What is handed in stays as it is, its spare room too, and so does what the reader shows.
func TestNothingIsChanged(t *testing.T) {
	s, list := told(t)
	fresh, freshList := told(t)
	r := &lender{shop: three()}
	run(t, s, list, r)
	if !reflect.DeepEqual(lists(s, list), lists(fresh, freshList)) {
		t.Fatal("Run has changed what it was told")
	}
	for i := range r.lent {
		if !slices.Equal(whole(r.lent[i]), r.fresh[i]) {
			t.Fatal("Run has changed what the reader showed")
		}
	}
	list[6].Table, freshList[6].Table = 77, 77
	if _, at, err := exec.Run(s, list, r); at != 6 || err != api.ErrArg || !reflect.DeepEqual(lists(s, list), lists(fresh, freshList)) {
		t.Fatalf("Run (%d, %d) has changed what it was told", at, err)
	}
}

// scribble writes over an effect, its spare room too.
func scribble(x api.Effect) {
	for _, r := range whole(x.Reads) {
		for i := range whole(r.Seen) {
			whole(r.Seen)[i] = api.Stamp{Key: "spoilt"}
		}
	}
	for _, r := range whole(x.Replies) {
		for _, row := range whole(r.Rows) {
			for i := range whole(row) {
				whole(row)[i] = number(-77)
			}
		}
		clear(whole(r.Rows))
	}
	clear(whole(x.Reads))
	clear(whole(x.Writes))
	clear(whole(x.Replies))
}

// What is answered is new memory: writing over it is seen nowhere else, and writing over what was told or shown is not seen in it.
func TestAnswersAreNew(t *testing.T) {
	s, list := told(t)
	fresh, freshList := told(t)
	r := &lender{shop: three()}
	first, second := run(t, s, list, r), run(t, s, list, r)
	want := plain(second)
	scribble(first)
	if !reflect.DeepEqual(lists(s, list), lists(fresh, freshList)) || !same(second, want) {
		t.Fatal("an answer shares its memory")
	}
	for i := range r.lent {
		if !slices.Equal(whole(r.lent[i]), r.fresh[i]) {
			t.Fatal("an answer is memory of what was shown")
		}
		clear(whole(r.lent[i]))
	}
	for _, b := range list {
		clear(whole(b.Values))
	}
	clear(whole(list))
	for _, x := range s.Tables {
		clear(whole(x.Columns))
		clear(whole(x.Indexes))
		clear(whole(x.Keys))
	}
	clear(whole(s.Tables))
	if !same(second, want) {
		t.Fatal("an answer is memory of what was told or shown")
	}
}

// No two lists of one answer share any memory.
func TestListsOfOneAnswer(t *testing.T) {
	s, list := told(t)
	got := run(t, s, list, three())
	want := plain(got)
	for i := range got.Reads {
		for j := range whole(got.Reads[i].Seen) {
			whole(got.Reads[i].Seen)[j] = api.Stamp{Key: "spoilt"}
		}
		got.Reads[i].Seen = slices.Clone(want.Reads[i].Seen)
		if !same(got, want) {
			t.Fatalf("what was seen of the read %d is another one's", i)
		}
	}
	for i, reply := range got.Replies {
		for j := range reply.Rows {
			for n := range whole(reply.Rows[j]) {
				whole(reply.Rows[j])[n] = number(-77)
			}
			reply.Rows[j] = slices.Clone(want.Replies[i].Rows[j])
			if !same(got, want) {
				t.Fatalf("the row %d of the reply %d is another one's", j, i)
			}
		}
	}
}

// A thrifty reader has one list, in which it shows everything.
type thrifty struct {
	*shop
	list []api.Hit
}

func (r *thrifty) Span(p api.Span) []api.Hit {
	r.list = append(r.list[:0], r.shop.Span(p)...)
	return r.list
}

// P21.2: what was seen is what the reader showed then, also if it uses its list again.
func TestReaderThatUsesItsListAgain(t *testing.T) {
	s, list := told(t)
	if got, want := run(t, s, list, &thrifty{shop: three()}), run(t, s, list, three()); !same(got, want) {
		t.Fatalf("%#v, not %#v", got, want)
	}
}

// A fickle reader shows each span just once as it is, then otherwise.
type fickle struct {
	*shop
	had map[api.Span]int
}

func (r *fickle) Span(p api.Span) []api.Hit {
	r.had[p]++
	if r.had[p] > 1 {
		return []api.Hit{{Key: p.From, Ts: 1, Value: bytesOf(cell(2, number(99)))}}
	}
	return r.shop.Span(p)
}

// P21.2, P21.3: what the reader showed first is what counts.
func TestReaderThatChangesItsMind(t *testing.T) {
	s, list := told(t)
	if got, want := run(t, s, list, &fickle{three(), map[api.Span]int{}}), run(t, s, list, three()); !same(got, want) {
		t.Fatalf("%#v, not %#v", got, want)
	}
}
