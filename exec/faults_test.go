package exec_test

import (
	"math"
	"slices"
	"testing"

	"lintel/api"
	"lintel/exec"
	"lintel/rows"
	"lintel/shard"
)

// P21.1: ErrNil without a reader, whatever else is wrong; ErrForm of a schema that isn't right, ahead of the statements, and of the reader.
func TestWhatIsWrongFirst(t *testing.T) {
	wrong := laid(func(t, u *api.Table) { t.Columns[0].State = api.WriteOnly })
	good := []api.Bound{{Kind: api.Select, Table: 1}}
	bad := []api.Bound{{Kind: 9, Table: 1}}
	for _, list := range [][]api.Bound{nil, good, bad} {
		refused(t, base(), list, nil, 0, api.ErrNil)
		refused(t, wrong, list, nil, 0, api.ErrNil)
		r := newShop()
		refused(t, wrong, list, r, 0, api.ErrForm)
		if len(r.asked) > 0 {
			t.Fatal("the reader was asked, by a schema that isn't right")
		}
	}
	refused(t, base(), bad, newShop(), 0, api.ErrArg)
	for _, change := range []func(t, u *api.Table){
		func(t, u *api.Table) { t.Columns = nil },
		func(t, u *api.Table) { t.Indexes[0].Column = 7 },
		func(t, u *api.Table) { u.Keys[0].Parent = 99 },
		func(t, u *api.Table) { u.Name = "t" },
		func(t, u *api.Table) { u.Id = 1 },
		func(t, u *api.Table) { u.Columns[1].Kind = api.Text },
	} {
		refused(t, laid(change), good, newShop(), 0, api.ErrForm)
	}
	// Of the empty schema there are no statements.
	run(t, api.Schema{}, nil, newShop())
	refused(t, api.Schema{}, []api.Bound{{Kind: api.Select}}, newShop(), 0, api.ErrArg)
}

// odd are values that may not be.
func odd() []api.Value {
	return []api.Value{{Kind: 3}, {Kind: -1}, {N: 1}, {S: "x"}, {Kind: api.Int, S: "x"}, {Kind: api.Text, N: 1}, text(long("x", 65))}
}

// wrongs are statements that Bind doesn't make by the schema of states: with a 2 (the key), e 12 (WriteOnly), b 3 (a text), g 13 (DeleteOnly), c 5, h 4 (WriteOnly).
func wrongs() []api.Bound {
	row := values(number(1), text("x"), number(5))
	insert := func(list ...api.Value) api.Bound { return api.Bound{Kind: api.Insert, Table: 1, Values: list} }
	update := func(set int, to api.Value) api.Bound { return api.Bound{Kind: api.Update, Table: 1, Set: set, To: to} }
	list := []api.Bound{
		insert(), insert(row[:2]...), insert(number(1), text("x"), number(5), number(6)), insert(number(1), number(7), text("x"), number(8), number(5), text("h")),
		insert(api.Value{}, text("x"), number(5)), insert(text("1"), text("x"), number(5)), insert(number(1), number(1), number(5)), insert(number(1), text("x"), text("5")),
		update(2, number(1)), update(0, api.Value{}), update(3, number(1)), update(5, text("x")),
		{Kind: api.Update, Table: 6, Set: 5, To: number(1)}, {Kind: api.Update, Table: 6, Set: 7, To: number(1)}, {Kind: api.Update, Table: 6},
	}
	for _, v := range odd() {
		list = append(list, insert(v, text("x"), number(5)), insert(number(1), v, number(5)), insert(number(1), text("x"), v), update(3, v), update(5, v))
	}
	for _, id := range []int{12, 13, 4, 1, 6, 7, 8, 9, 10, 11, 14, -1, -2, -3, math.MaxInt, math.MinInt, 1<<32 + 3} {
		list = append(list, update(id, api.Value{}))
		for _, b := range []api.Bound{{Kind: api.Update, Set: 5}, {Kind: api.Delete}, {Kind: api.Select}} {
			b.Table, b.Where = 1, id
			list = append(list, b)
		}
	}
	for _, b := range []api.Bound{{Kind: api.Update, Set: 5}, {Kind: api.Delete}, {Kind: api.Select}} {
		b.Table = 1
		for _, v := range append(odd(), text("x")) {
			b.Where, b.Is = 2, v
			list = append(list, b)
		}
		for _, v := range append(odd(), number(1)) {
			b.Where, b.Is = 3, v
			list = append(list, b)
		}
		for _, table := range []int{0, 2, 3, 7, 9, 12, -1, math.MaxInt, math.MinInt} {
			list = append(list, api.Bound{Kind: b.Kind, Table: table, Set: b.Set}, api.Bound{Kind: api.Insert, Table: table, Values: row})
		}
	}
	for _, kind := range []int{0, -1, 5, 6, math.MaxInt, math.MinInt} {
		list = append(list, api.Bound{Kind: kind, Table: 1, Values: row, Set: 5})
	}
	return list
}

// P21.1: ErrArg of statements that aren't as Bind makes them; those ahead are done, and those behind aren't looked at.
func TestWrongStatements(t *testing.T) {
	s := states()
	s.Tables[0].Columns[1].Kind = api.Int
	good := statements(t, s, "insert into t values (4, 'x', 5)")[0]
	for _, b := range wrongs() {
		r := newShop()
		refused(t, s, []api.Bound{b}, r, 0, api.ErrArg)
		if len(r.asked) > 0 {
			t.Fatalf("%+v: asked for %q", b, r.asked)
		}
		refused(t, s, []api.Bound{good, b, b}, r, 1, api.ErrArg)
		if len(r.asked) == 0 {
			t.Fatalf("%+v: nothing was asked for ahead of it", b)
		}
		refused(t, s, []api.Bound{good, good, b}, newShop(), 1, api.ErrTwice)
		refused(t, s, []api.Bound{good, b, good}, newShop(), 1, api.ErrArg)
	}
}

// P21.1: what a Kind has no use for may be anything.
func TestWhatIsNoUse(t *testing.T) {
	junk := api.Bound{Table: 1, Values: []api.Value{{Kind: 9}, {}, {N: 5}, {}, {}, {}}, Set: -77, To: api.Value{Kind: 9}, Where: -77, Is: api.Value{S: "x"}}
	for _, line := range []string{
		"insert into t values (4, 'x', 14, null)", "update t set d = 1 where b = 'x'", "delete from t where b = 'x'", "select * from t where b = 'x'",
	} {
		b := statements(t, base(), line)[0]
		want := run(t, base(), []api.Bound{b}, three())
		b.Values = slices.Clone(b.Values)
		switch b.Kind {
		case api.Insert:
			b.Set, b.To, b.Where, b.Is = junk.Set, junk.To, junk.Where, junk.Is
		case api.Update:
			b.Values = junk.Values
		default:
			b.Values, b.Set, b.To = junk.Values, junk.Set, junk.To
		}
		if got := run(t, base(), []api.Bound{b}, three()); !same(got, want) {
			t.Fatalf("%s: %#v, not %#v", line, got, want)
		}
	}
}

// P21.1: each value that may be, at each place where one may.
func TestValuesThatMayBe(t *testing.T) {
	s := laid(func(t, u *api.Table) { u.Keys = nil })
	for _, v := range values(api.Value{}, text(""), text("x"), text(long("x", 64)), text(long("\x00", 64)), text("\xff")) {
		x := run(t, s, []api.Bound{
			{Kind: api.Insert, Table: 1, Values: values(number(math.MinInt64), v, number(math.MaxInt64), api.Value{})},
			{Kind: api.Select, Table: 1, Where: 3, Is: v},
			{Kind: api.Update, Table: 1, Set: 3, To: text("other")},
			{Kind: api.Update, Table: 1, Set: 3, To: v, Where: 4, Is: number(math.MaxInt64)},
			{Kind: api.Select, Table: 1, Where: 3, Is: v},
			{Kind: api.Delete, Table: 1, Where: 3, Is: v},
			{Kind: api.Select, Table: 1},
		}, newShop())
		told := found(values(number(math.MinInt64), v, number(math.MaxInt64), api.Value{}))
		checkReplies(t, x, counted(1), told, counted(1), counted(1), told, counted(1), found())
	}
}

// A hollow reader panics when it is asked, as a nil pointer may.
type hollow struct{ hits []api.Hit }

func (h *hollow) Span(api.Span) []api.Hit { return h.hits }

// A late reader panics when it is asked a second time.
type late struct{ asked int }

func (l *late) Span(api.Span) []api.Hit {
	l.asked++
	if l.asked > 1 {
		panic("no more")
	}
	return nil
}

// No call panics: a reader that does is none. One that is nil and answers is one.
func TestReadersThatPanic(t *testing.T) {
	list := statements(t, base(), "insert into t values (4, 'x', 14, null); select * from t")
	var none *hollow
	refused(t, base(), list, none, 0, api.ErrNil)
	refused(t, base(), list, &late{}, 0, api.ErrNil)
	run(t, base(), list[:0], none)
	refused(t, base(), []api.Bound{{Kind: 9}}, none, 0, api.ErrArg)
	var empty *shard.Shard
	x := run(t, base(), list, empty)
	if len(x.Reads) != 3 || len(x.Writes) != 3 {
		t.Fatalf("of a shard that is nil: %#v", x)
	}
}

// A wild reader shows the same hits whatever it is asked.
type wild []api.Hit

func (w wild) Span(api.Span) []api.Hit { return w }

// No call panics: a reader that shows what lies nowhere is answered something.
func TestReadersGoneWild(t *testing.T) {
	full := bytesOf(rowOf(number(1), text("x"), number(11), number(1))...)
	keys := []string{"", "\xff", keyOf(1), keyOf(1), rows.Row(6, number(1)), rows.Entry(9, text("x"), number(1)), rows.Entry(10, number(14), number(9)), rows.Table(1).From, "\x00"}
	for _, line := range []string{
		"insert into t values (4, 'x', 14, null)", "update t set d = 1 where b = 'x'", "update t set b = 'y'", "delete from t", "delete from t where b = 'x'", "select * from t where d = 1", "delete from u",
	} {
		for i := range keys {
			var w wild
			for _, key := range keys[i:] {
				w = append(w, api.Hit{Key: key, Ts: -1, Value: full}, api.Hit{Key: key}, api.Hit{Key: key, Value: bytesOf(cell(3, number(7)))})
			}
			list := statements(t, base(), line)
			first, firstAt, firstErr := exec.Run(base(), list, w)
			again, at, err := exec.Run(base(), list, w)
			if !same(first, again) || at != firstAt || err != firstErr {
				t.Fatalf("%s: answered otherwise a second time", line)
			}
		}
	}
}
