package exec_test

import (
	"math"
	"testing"

	"lintel/api"
	"lintel/rows"
)

// rowOf answers the cells of a row of t.
func rowOf(a, b, c, d api.Value) []api.Cell {
	return cells(cell(2, a), cell(3, b), cell(4, c), cell(5, d))
}

// three answers a shop with the rows 1, 2, 3 of t, their entries in i and in w, and two rows of u, of which one has a parent.
func three() *shop {
	s := newShop()
	for n, b := range []string{"x", "y", "x"} {
		k, c := number(int64(n+1)), number(int64(n+11))
		s.row(1, rowOf(k, text(b), c, api.Value{})...).entry(9, text(b), k).entry(10, c, k)
	}
	return s.row(6, cell(7, number(1)), cell(8, number(2))).row(6, cell(7, number(5)), cell(8, api.Value{}))
}

func line(a int64, b string, c int64) []api.Value {
	return values(number(a), text(b), number(c), api.Value{})
}

func keyOf(n int64) string { return rows.Row(1, number(n)) }

// P21.1: the rows that are meant, and what is asked for to find them.
func TestWhere(t *testing.T) {
	for _, c := range []struct {
		line  string
		spans []api.Span
		want  api.Reply
	}{
		// Without a Where: all of them.
		{"select * from t", []api.Span{rows.Table(1)}, found(line(1, "x", 11), line(2, "y", 12), line(3, "x", 13))},
		// Of the key's column: by its key.
		{"select * from t where a = 2", []api.Span{single(keyOf(2))}, found(line(2, "y", 12))},
		{"select * from t where a = 4", []api.Span{single(keyOf(4))}, found()},
		{"select * from t where a = null", []api.Span{single(rows.Row(1, api.Value{}))}, found()},
		// A Public index: by its entries, each row by its key.
		{"select * from t where b = 'x'", []api.Span{rows.Equal(9, text("x")), single(keyOf(1)), single(keyOf(3))}, found(line(1, "x", 11), line(3, "x", 13))},
		{"select * from t where b = 'z'", []api.Span{rows.Equal(9, text("z"))}, found()},
		{"select * from t where b = null", []api.Span{rows.Equal(9, api.Value{})}, found()},
		// One that isn't Public: all rows are looked at.
		{"select * from t where c = 12", []api.Span{rows.Table(1)}, found(line(2, "y", 12))},
		{"select * from t where c = 1", []api.Span{rows.Table(1)}, found()},
		// None: likewise; null is null.
		{"select * from t where d = null", []api.Span{rows.Table(1)}, found(line(1, "x", 11), line(2, "y", 12), line(3, "x", 13))},
		{"select * from t where d = 0", []api.Span{rows.Table(1)}, found()},
		{"select * from u where p = null", []api.Span{rows.Table(6)}, found(values(number(5), api.Value{}))},
		{"select * from u where p = 2", []api.Span{rows.Table(6)}, found(values(number(1), number(2)))},
	} {
		r := three()
		x := done(t, base(), r, c.line)
		checkReplies(t, x, c.want)
		checkReads(t, x, r, c.spans...)
		checkWrites(t, x)
	}
}

// P21.1: of indexes over the column the first one that is Public is asked; over the key's column none is.
func TestWhichIndex(t *testing.T) {
	over := func(id, column, state int) api.Index {
		return api.Index{Id: id, Name: "z" + string(rune('a'+id)), Column: column, State: state}
	}
	for _, c := range []struct {
		list []api.Index
		want api.Span
	}{
		{nil, rows.Table(1)},
		{[]api.Index{over(10, 3, api.WriteOnly)}, rows.Table(1)},
		{[]api.Index{over(10, 3, api.DeleteOnly)}, rows.Table(1)},
		{[]api.Index{over(10, 4, api.Public)}, rows.Table(1)},
		{[]api.Index{over(10, 3, api.Public)}, rows.Equal(10, text("z"))},
		{[]api.Index{over(10, 3, api.Public), over(9, 3, api.Public)}, rows.Equal(10, text("z"))},
		{[]api.Index{over(9, 3, api.WriteOnly), over(11, 4, api.Public), over(10, 3, api.Public)}, rows.Equal(10, text("z"))},
	} {
		s := laid(func(t, u *api.Table) { t.Indexes, u.Keys = c.list, nil })
		r := newShop()
		checkReads(t, done(t, s, r, "select * from t where b = 'z'"), r, c.want)
	}
	s := laid(func(t, u *api.Table) { t.Indexes = []api.Index{over(9, 2, api.Public)} })
	r := three().entry(9, number(7), number(1))
	x := done(t, s, r, "select * from t where a = 7; select * from t where a = 1")
	checkReads(t, x, r, single(keyOf(7)), single(keyOf(1)))
	checkReplies(t, x, found(), found(line(1, "x", 11)))
}

// P21.1: an entry without a row is let be; so is a hit of the table's span that is no row, and one of the entries' that is no entry.
func TestOddHits(t *testing.T) {
	r := three().entry(9, text("x"), number(2)).entry(9, text("x"), number(8)).entry(9, text("x"), text("q"))
	delete(r.hits, keyOf(2))
	x := done(t, base(), r, "select * from t where b = 'x'; delete from t where b = 'x'")
	checkReplies(t, x, found(line(1, "x", 11), line(3, "x", 13)), counted(2))

	r = three()
	good := r.hits[keyOf(2)].Value
	for _, v := range []string{"", "x", good + "\x00", good[1:], good[:len(good)-1]} {
		r.lay(keyOf(2), v).lay(keyOf(1)+"\x00", v).lay(rows.Table(1).From, v)
		x := done(t, base(), r, "select * from t; select * from t where a = 2; select * from t where b = 'y'; update t set d = null; insert into t values (2, 'y', 20, null)")
		checkReplies(t, x, found(line(1, "x", 11), line(3, "x", 13)), found(), found(), counted(2), counted(1))
	}

	// Keys of shorter and of longer lists, and of none, in the span of the entries of x.
	span := rows.Equal(9, text("x"))
	r = three().row(1, rowOf(number(4), text("y"), number(14), api.Value{})...)
	r.lay(span.From, "").lay(rows.Entry(9, text("x"), number(1))+"\x02\x80\x00\x00\x00\x00\x00\x00\x04", "").lay(span.From+"\x07", "")
	r.asked = nil
	x = done(t, base(), r, "select * from t where b = 'x'")
	checkReplies(t, x, found(line(1, "x", 11), line(3, "x", 13)))
	checkReads(t, x, r, span, single(keyOf(1)), single(keyOf(3)))
}

// P21.1: an index's entries say which rows are meant, whatever these have there.
func TestEntriesAreBelieved(t *testing.T) {
	r := three().entry(9, text("z"), number(2))
	checkReplies(t, done(t, base(), r, "select * from t where b = 'z'; delete from t where b = 'q'"), found(line(2, "y", 12)), counted(0))
}

// states is t with columns that are not Public, and ids that don't rise with their order: a 2, e 12 (WriteOnly, Default 7), b 3, g 13 (DeleteOnly, Default 8), c 5, h 4 (WriteOnly, Default null).
func states() api.Schema {
	s := base()
	s.Last = 13
	s.Tables[0].Columns = []api.Column{
		{Id: 2, Name: "a", Kind: api.Int, State: api.Public},
		{Id: 12, Name: "e", Kind: api.Int, State: api.WriteOnly, Default: number(7)},
		{Id: 3, Name: "b", Kind: api.Text, State: api.Public, Default: text("no")},
		{Id: 13, Name: "g", Kind: api.Int, State: api.DeleteOnly, Default: number(8)},
		{Id: 5, Name: "c", Kind: api.Int, State: api.Public, Default: number(9)},
		{Id: 4, Name: "h", Kind: api.Text, State: api.WriteOnly},
	}
	s.Tables[0].Indexes = []api.Index{{Id: 9, Name: "i", Column: 3, State: api.DeleteOnly}, {Id: 10, Name: "w", Column: 12, State: api.WriteOnly}}
	return s
}

// P21.1: a new row has the values of the Public columns, also null ones, the Default of the WriteOnly ones, and nothing else.
func TestInsert(t *testing.T) {
	r := newShop()
	x := done(t, states(), r, "insert into t values (1, 'x', 5); insert into t values (-3, null, null); select * from t")
	checkWrites(t, x,
		put(keyOf(-3), cell(2, number(-3)), cell(3, api.Value{}), cell(4, api.Value{}), cell(5, api.Value{}), cell(12, number(7))),
		put(keyOf(1), cell(2, number(1)), cell(3, text("x")), cell(4, api.Value{}), cell(5, number(5)), cell(12, number(7))),
		has(10, number(7), number(-3)), has(10, number(7), number(1)),
	)
	checkReads(t, x, r, single(keyOf(1)), single(keyOf(-3)), rows.Table(1))
	checkReplies(t, x, counted(1), counted(1), found(values(number(-3), api.Value{}, api.Value{}), values(number(1), text("x"), number(5))))
}

// P21.1: the least and greatest keys, and each kind of them.
func TestKeysAtTheEdges(t *testing.T) {
	x := done(t, base(), newShop(), "insert into u values (9223372036854775807, null); insert into u values (-9223372036854775808, null); insert into u values (0, null); select * from u")
	checkReplies(t, x, counted(1), counted(1), counted(1), found(
		values(number(math.MinInt64), api.Value{}), values(number(0), api.Value{}), values(number(math.MaxInt64), api.Value{})))
	s := laid(func(t, u *api.Table) {
		u.Columns[0].Kind = api.Text
	})
	x = done(t, s, newShop(), "insert into u values ('b', null); insert into u values ('', null); insert into u values ('"+long("a", 64)+"', null); select * from u; select * from u where k = ''")
	checkReplies(t, x, counted(1), counted(1), counted(1), found(
		values(text(""), api.Value{}), values(text(long("a", 64)), api.Value{}), values(text("b"), api.Value{})), found(values(text(""), api.Value{})))
}

// P21.1: ErrTwice of a key that is there, also of one that a statement ahead has put; not of one that is gone again.
func TestInsertTwice(t *testing.T) {
	fails(t, base(), three(), "insert into t values (2, null, null, null)", 0, api.ErrTwice)
	fails(t, base(), three(), "select * from t; insert into t values (4, null, null, null); insert into t values (4, null, null, null)", 2, api.ErrTwice)
	x := done(t, base(), three(), "delete from t where a = 3; insert into t values (3, 'z', 13, null)")
	checkReplies(t, x, counted(1), counted(1))
	checkWrites(t, x,
		put(keyOf(3), rowOf(number(3), text("z"), number(13), api.Value{})...),
		gone(rows.Entry(9, text("x"), number(3))), has(9, text("z"), number(3)), has(10, number(13), number(3)),
	)
	// Of another table the key is another one.
	done(t, base(), three(), "insert into u values (2, null)")
}

// P21.1: of each row that is meant Set is To, WriteOnly columns that it lacks have their Default, and all else stays: cells of DeleteOnly columns, of none, and of Public ones that it lacks.
func TestUpdate(t *testing.T) {
	r := newShop()
	full := cells(cell(2, number(1)), cell(3, text("x")), cell(4, text("h")), cell(5, number(5)), cell(12, api.Value{}), cell(13, number(1)), cell(77, text("q")))
	r.row(1, full...).row(1, cell(2, number(2)))
	x := done(t, states(), r, "update t set c = -1")
	checkReplies(t, x, counted(2))
	checkReads(t, x, r, rows.Table(1))
	checkWrites(t, x,
		put(keyOf(1), cell(2, number(1)), cell(3, text("x")), cell(4, text("h")), cell(5, number(-1)), cell(12, api.Value{}), cell(13, number(1)), cell(77, text("q"))),
		put(keyOf(2), cell(2, number(2)), cell(4, api.Value{}), cell(5, number(-1)), cell(12, number(7))),
		// A writer that has the index not yet may have put no entry for the first one.
		has(10, api.Value{}, number(1)),
		gone(rows.Entry(10, api.Value{}, number(2))), has(10, number(7), number(2)),
	)
	x = done(t, states(), r, "update t set c = null where a = 2; select * from t where a = 2; update t set b = null where a = 9; select * from t where b = null")
	checkReplies(t, x, counted(1), found(values(number(2), api.Value{}, api.Value{})), counted(0), found(values(number(2), api.Value{}, api.Value{})))
}

// P21.1: rows by an index, by the key, by a look at all of them are updated; by what they were when the statement began.
func TestUpdateWhere(t *testing.T) {
	r := three()
	x := done(t, base(), r, "update t set b = 'y' where b = 'x'; select * from t where b = 'y'; update t set d = 1 where c = 12")
	checkReplies(t, x, counted(2), found(line(1, "y", 11), line(2, "y", 12), line(3, "y", 13)), counted(1))
	checkReads(t, x, r, rows.Equal(9, text("x")), single(keyOf(1)), single(keyOf(3)), rows.Equal(9, text("y")), single(keyOf(2)), rows.Table(1))
	checkWrites(t, x,
		put(keyOf(1), rowOf(number(1), text("y"), number(11), api.Value{})...),
		put(keyOf(2), rowOf(number(2), text("y"), number(12), number(1))...),
		put(keyOf(3), rowOf(number(3), text("y"), number(13), api.Value{})...),
		gone(rows.Entry(9, text("x"), number(1))), gone(rows.Entry(9, text("x"), number(3))),
		has(9, text("y"), number(1)), has(9, text("y"), number(2)), has(9, text("y"), number(3)),
		has(10, number(11), number(1)), has(10, number(12), number(2)), has(10, number(13), number(3)),
	)
}

// P21.1: rows are gone, with their entries in indexes of each state.
func TestDelete(t *testing.T) {
	for state := api.DeleteOnly; state <= api.Public; state++ {
		s := laid(func(t, u *api.Table) { t.Indexes[0].State, u.Keys = state, nil })
		r := three()
		x := done(t, s, r, "delete from t where b = 'x'; select * from t; delete from t where a = 9")
		checkReplies(t, x, counted(2), found(line(2, "y", 12)), counted(0))
		checkWrites(t, x, gone(keyOf(1)), gone(keyOf(3)),
			gone(rows.Entry(9, text("x"), number(1))), gone(rows.Entry(9, text("x"), number(3))),
			gone(rows.Entry(10, number(11), number(1))), gone(rows.Entry(10, number(13), number(3))),
		)
	}
}

// P21.1: what is selected has the Public columns alone, in the table's order; null where the row has no cell.
func TestSelect(t *testing.T) {
	r := newShop().row(1, cell(2, number(1)), cell(4, text("h")), cell(5, number(5)), cell(12, number(3)), cell(13, number(1))).row(1, cell(2, number(2)), cell(3, text("b")))
	checkReplies(t, done(t, states(), r, "select * from t"), found(
		values(number(1), api.Value{}, number(5)), values(number(2), text("b"), api.Value{})))
	s := states()
	s.Tables[0].Columns[1].State, s.Tables[0].Columns[2].State = api.Public, api.DeleteOnly
	checkReplies(t, done(t, s, r, "select * from t; select * from t where c = 5"), found(
		values(number(1), number(3), number(5)), values(number(2), api.Value{}, api.Value{})), found(values(number(1), number(3), number(5))))
}

// P21.1, P21.2: each statement finds what those ahead of it have written; a span is asked for once, and seen as it was then.
func TestOneBehindTheOther(t *testing.T) {
	r := three()
	x := done(t, base(), r, "insert into t values (4, 'x', 14, null); select * from t where b = 'x'; update t set b = 'z' where a = 4; select * from t where b = 'x'; select * from t where b = 'z'; delete from t where b = 'z'; select * from t where a = 4; select * from t where b = 'z'")
	checkReplies(t, x, counted(1),
		found(line(1, "x", 11), line(3, "x", 13), line(4, "x", 14)), counted(1),
		found(line(1, "x", 11), line(3, "x", 13)), found(line(4, "z", 14)), counted(1), found(), found())
	checkReads(t, x, r, single(keyOf(4)), rows.Equal(10, number(14)), rows.Equal(9, text("x")), single(keyOf(1)), single(keyOf(3)), rows.Equal(9, text("z")), rows.Table(6))
	checkWrites(t, x, gone(keyOf(4)), gone(rows.Entry(9, text("x"), number(4))), gone(rows.Entry(9, text("z"), number(4))), gone(rows.Entry(10, number(14), number(4))))
}
