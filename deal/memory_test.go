package deal_test

import (
	"reflect"
	"testing"

	"lintel/api"
	"lintel/deal"
)

// stretch gives a list spare room with something in it.
func stretch[T any](list []T, spare T) []T {
	whole := append(append(make([]T, 0, len(list)+3), list...), spare, spare, spare)
	return whole[:len(list)]
}

// whole answers a list with its spare room.
func whole[T any](list []T) []T { return list[:cap(list)] }

// effect answers what the tests of memory hand in, all lists with spare room: two calls answer the same in memory of their own.
func effect() api.Effect {
	spare := stamp("b", 99)
	r := reads(
		api.Read{Span: span("a", "e"), Seen: stretch([]api.Stamp{stamp("a", 1), stamp("b", 2), stamp("d", 3)}, spare)},
		api.Read{Span: span("a", "b"), Seen: stretch([]api.Stamp{stamp("a", 1)}, spare)},
		api.Read{Span: span("b", "c"), Seen: stretch(nil, spare)},
	)
	replies := []api.Reply{{N: 1}}
	return api.Effect{Reads: stretch(r, read("b", "c", spare)), Writes: stretch(writes("a", "c", "aa", "e"), put("bb")), Replies: stretch(replies, api.Reply{N: 99})}
}

// lists answers all that an effect holds, with all spare room.
func lists(e api.Effect) []any {
	all := []any{whole(e.Reads), whole(e.Writes), whole(e.Replies)}
	for _, r := range e.Reads {
		all = append(all, whole(r.Seen))
	}
	return all
}

// scribble writes over asks, their spare room too.
func scribble(list []deal.Ask) {
	for _, a := range whole(list) {
		for _, r := range whole(a.Command.Reads) {
			for i := range whole(r.Seen) {
				whole(r.Seen)[i] = stamp("spoilt", 77)
			}
		}
		for i := range whole(a.Command.Reads) {
			whole(a.Command.Reads)[i] = read("spoilt", "spoiltt")
		}
		for i := range whole(a.Command.Writes) {
			whole(a.Command.Writes)[i] = put("spoilt")
		}
	}
	clear(whole(list))
}

// What is handed in stays as it is, its spare room too.
func TestNothingIsChanged(t *testing.T) {
	e, fresh := effect(), effect()
	d := deal.New(me, 4, 5, 60, e, splitBy(t, "b", "d"))
	scribble(d.Asks())
	for i := range 3 {
		d.Told(i, api.Prepare, ok(i))
	}
	d.Told(0, api.Commit, ok(7))
	if !reflect.DeepEqual(lists(e), lists(fresh)) {
		t.Fatal("an effect that was handed in has been changed")
	}
}

// What is handed in is not kept: writing over it is seen in no deal of it.
func TestNothingIsKept(t *testing.T) {
	e := effect()
	s := splitBy(t, "b", "d")
	d := deal.New(me, 4, 5, 60, e, s)
	want := stateOf(deal.New(me, 4, 5, 60, effect(), s))
	for _, r := range e.Reads {
		clear(whole(r.Seen))
	}
	clear(whole(e.Reads))
	clear(whole(e.Writes))
	checkState(t, d, want)
}

// P22.5: what is told is new memory in every phase: writing over it is seen nowhere else, neither in another answer, nor in a list beside it.
func TestAnswersAreNew(t *testing.T) {
	s := splitBy(t, "b", "d")
	d := deal.New(me, 4, 5, 60, effect(), s)
	for _, next := range []func(){
		func() { d.Told(1, api.Prepare, ok(1)) },
		func() { d.Told(0, api.Prepare, ok(1)) },
		func() { d.Told(2, api.Prepare, ok(1)) },
		func() { d.Told(0, api.Commit, ok(2)) },
		func() { d.Told(0, api.Resolve, ok(0)) },
	} {
		want := stateOf(d)
		first, second := d.Asks(), d.Asks()
		scribble(first)
		if !reflect.DeepEqual(plain(second), want.asks) {
			t.Fatal("two answers share their memory")
		}
		checkState(t, d, want)
		next()
	}
}

// P22.5: no two lists of one answer share memory, not their spare room either.
func TestListsAreApart(t *testing.T) {
	d := deal.New(me, 4, 5, 60, effect(), splitBy(t, "b", "d"))
	want := plain(d.Asks())
	got := d.Asks()
	for i := range got {
		c := &got[i].Command
		for j := range c.Reads {
			c.Reads[j].Seen = append(c.Reads[j].Seen, stamp("more", 1))
			want[i].Command.Reads[j].Seen = append(want[i].Command.Reads[j].Seen, stamp("more", 1))
		}
		c.Reads = append(c.Reads, read("more", "moree"))
		c.Writes = append(c.Writes, put("more"))
		want[i].Command.Reads = append(want[i].Command.Reads, read("more", "moree"))
		want[i].Command.Writes = append(want[i].Command.Writes, put("more"))
	}
	if !reflect.DeepEqual(plain(got), plain(want)) {
		t.Fatalf("lists of one answer share their memory:\n%+v, not\n%+v", got, want)
	}
}

// Two deals never meet, not even two of one effect; what one is told is nothing to the other.
func TestDealsAreApart(t *testing.T) {
	e, s := effect(), splitBy(t, "b", "d")
	a, b := deal.New(me, 4, 5, 60, e, s), deal.New(me, 4, 5, 60, e, s)
	want := stateOf(b)
	a.Told(1, api.Prepare, ok(3))
	a.Told(0, api.Prepare, no(api.ErrBusy))
	a.Told(2, api.Resolve, ok(0))
	scribble(a.Asks())
	checkState(t, b, want)
}
