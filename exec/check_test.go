package exec_test

import (
	"strconv"
	"testing"

	"lintel/api"
	"lintel/rows"
)

// P21.1: a row's value in a Unique index that counts may be no other row's: inserted or updated, one that was there or that is new itself.
func TestUnique(t *testing.T) {
	for _, c := range []struct {
		line string
		at   int
		want api.Errno
	}{
		{"insert into t values (4, 'x', 12, null)", 0, api.ErrTwice},
		{"insert into t values (4, 'x', 14, null)", 0, api.OK},
		{"insert into t values (4, 'x', 14, null); insert into t values (5, 'x', 14, null)", 1, api.ErrTwice},
		{"update t set c = 12 where a = 1", 0, api.ErrTwice},
		{"update t set c = 14 where a = 1", 0, api.OK},
		{"update t set c = 14 where a = 1; insert into t values (4, 'x', 11, null)", 0, api.OK},
		{"update t set c = 14", 0, api.ErrTwice},
		{"update t set c = 14 where b = 'x'", 0, api.ErrTwice},
		{"update t set c = 14 where b = 'y'", 0, api.OK},
		{"delete from t where a = 2; update t set c = 12 where a = 1", 0, api.OK},
		// What the row has already isn't new to it.
		{"update t set c = 11 where a = 1", 0, api.OK},
		{"update t set b = 'y'; update t set c = 12 where b = 'q'", 0, api.OK},
		// Null may be there any number of times.
		{"update t set c = null; insert into t values (4, 'x', null, null); insert into t values (5, 'x', null, null)", 0, api.OK},
	} {
		s := laid(func(t, u *api.Table) { u.Keys = nil })
		for _, state := range []int{api.WriteOnly, api.Public} {
			s.Tables[0].Indexes[1].State = state
			answers(t, s, three(), c.line, c.at, c.want)
		}
		// One that is DeleteOnly, or isn't Unique, asks for nothing.
		s.Tables[0].Indexes[1].State = api.DeleteOnly
		done(t, s, three(), c.line)
		s.Tables[0].Indexes[1].Unique, s.Tables[0].Indexes[1].State = false, api.Public
		done(t, s, three(), c.line)
	}
}

// P21.1: entries alone are asked: of the value, of another key. The row's own is none, nor is a key there that is no entry's.
func TestUniqueAsksForEntries(t *testing.T) {
	span := rows.Equal(10, number(14))
	r := newShop().entry(10, number(14), number(4)).lay(span.From, "").lay(rows.Entry(10, number(14), number(5))+"\x01", "").lay(span.From+"\xff", "").entry(10, number(15), number(9))
	x := done(t, base(), r, "insert into t values (4, null, 14, null)")
	checkReads(t, x, r, single(keyOf(4)), span)
	for _, k := range []api.Value{number(3), number(5), text("4"), {}} {
		r := newShop().entry(10, number(14), number(4)).entry(10, number(14), k)
		fails(t, base(), r, "insert into t values (4, null, 14, null)", 0, api.ErrTwice)
	}
	// A row that has the value without an entry isn't found.
	done(t, base(), newShop().row(1, rowOf(number(1), text("x"), number(14), api.Value{})...), "insert into t values (4, null, 14, null)")
}

// P21.1: the Default of a WriteOnly column is new to a row that lacks it, and asked for.
func TestUniqueOfDefaults(t *testing.T) {
	s := states()
	s.Tables[0].Indexes[1].Unique = true
	fails(t, s, newShop(), "insert into t values (1, 'x', 5); insert into t values (2, 'x', 5)", 1, api.ErrTwice)
	lacks := newShop().row(1, cell(2, number(1)), cell(5, number(5))).row(1, cell(2, number(2)), cell(5, number(6)))
	fails(t, s, lacks, "update t set c = 7", 0, api.ErrTwice)
	fails(t, s, lacks, "update t set c = 7 where a = 1; update t set c = 7 where a = 2", 1, api.ErrTwice)
	done(t, s, lacks, "update t set c = 7 where a = 1")
	s.Tables[0].Columns[1].Default = api.Value{}
	done(t, s, newShop(), "insert into t values (1, 'x', 5); insert into t values (2, 'x', 5)")
	done(t, s, lacks, "update t set c = 7")
}

// linked answers the base schema with a foreign key of t, too: self, over d, the parent t.
func linked(state int) api.Schema {
	s := laid(func(t, u *api.Table) {
		t.Keys = []api.Foreign{{Id: 12, Name: "self", Column: 5, Parent: 1, State: state}}
		u.Keys[0].State = state
	})
	s.Last = 12
	return s
}

// P21.1: a row's value of a foreign key that counts has a row in the parent: inserted or updated, one that was there or that is new itself.
func TestParents(t *testing.T) {
	for _, c := range []struct {
		line string
		at   int
		want api.Errno
	}{
		{"insert into u values (9, 2)", 0, api.OK},
		{"insert into u values (9, 4)", 0, api.ErrParent},
		{"insert into u values (9, null)", 0, api.OK},
		{"insert into t values (4, 'x', 14, null); insert into u values (9, 4)", 0, api.OK},
		{"delete from t where a = 3; insert into u values (9, 3)", 1, api.ErrParent},
		{"update u set p = 3", 0, api.OK},
		{"update u set p = 4", 0, api.ErrParent},
		{"update u set p = 4 where k = 9", 0, api.OK},
		{"update u set p = null", 0, api.OK},
		{"update u set p = 5 where k = 5", 0, api.ErrParent},
		// A row may name itself, when it is new, too.
		{"insert into t values (4, 'x', 14, 4)", 0, api.OK},
		{"insert into t values (4, 'x', 14, 5)", 0, api.ErrParent},
		{"insert into t values (4, 'x', 14, 3)", 0, api.OK},
		{"update t set d = 3", 0, api.OK},
		{"update t set d = 1 where c = 11", 0, api.OK},
		{"update t set d = 4", 0, api.ErrParent},
	} {
		for _, state := range []int{api.WriteOnly, api.Public} {
			answers(t, linked(state), three(), c.line, c.at, c.want)
		}
		done(t, linked(api.DeleteOnly), three(), c.line)
	}
	// The same key of another table is no row itself.
	fails(t, base(), newShop(), "insert into u values (4, 4)", 0, api.ErrParent)
	// A hit that is no row is no parent.
	fails(t, base(), newShop().lay(keyOf(4), "x"), "insert into u values (9, 4)", 0, api.ErrParent)
	fails(t, base(), newShop().lay(keyOf(4), ""), "insert into u values (9, 4)", 0, api.ErrParent)
}

// P21.1: what a row has already isn't asked for; a parent is asked for by its key.
func TestParentsAsked(t *testing.T) {
	s := linked(api.Public)
	r := three().row(6, cell(7, number(6)), cell(8, number(44)))
	x := done(t, s, r, "update u set p = 44 where k = 6; update u set p = 3 where k = 6; insert into u values (7, null)")
	checkReads(t, x, r, single(rows.Row(6, number(6))), single(keyOf(3)), single(rows.Row(6, number(7))))
	r = three()
	x = done(t, s, r, "insert into t values (4, 'x', 14, 4)")
	checkReads(t, x, r, single(keyOf(4)), rows.Equal(10, number(14)))
}

// P21.1: the Unique indexes are asked ahead of the foreign keys, each in order.
func TestOrderOfChecks(t *testing.T) {
	s := linked(api.Public)
	x := &s.Tables[0]
	x.Indexes = []api.Index{{Id: 10, Name: "w", Column: 4, Unique: true, State: api.Public}, {Id: 9, Name: "i", Column: 3, Unique: true, State: api.WriteOnly}}
	x.Keys = append(x.Keys, api.Foreign{Id: 13, Name: "other", Column: 4, Parent: 6, State: api.WriteOnly})
	s.Last = 13
	r := newShop().row(1, rowOf(number(1), text("x"), number(11), api.Value{})...).row(6, cell(7, number(14)), cell(8, api.Value{})).entry(9, text("x"), number(1)).entry(10, number(11), number(1))
	effect := done(t, s, r, "insert into t values (4, 'y', 14, 1)")
	checkReads(t, effect, r, single(keyOf(4)), rows.Equal(10, number(14)), rows.Equal(9, text("y")), single(keyOf(1)), single(rows.Row(6, number(14))))
	fails(t, s, r, "insert into t values (4, 'x', 15, 2)", 0, api.ErrTwice)
	fails(t, s, r, "insert into t values (4, 'y', 11, 2)", 0, api.ErrTwice)
	fails(t, s, r, "insert into t values (4, 'y', 15, 1)", 0, api.ErrParent)
	fails(t, s, r, "insert into t values (1, 'x', 11, 2)", 0, api.ErrTwice)
}

// P21.1: a row that another one names by a foreign key that counts stays.
func TestChildren(t *testing.T) {
	for _, c := range []struct {
		line string
		at   int
		want api.Errno
	}{
		{"delete from t where a = 2", 0, api.ErrChild},
		{"delete from t where a = 1", 0, api.OK},
		{"delete from t where b = 'x'", 0, api.OK},
		{"delete from t", 0, api.ErrChild},
		{"delete from u; delete from t", 0, api.OK},
		{"update u set p = null; delete from t", 0, api.OK},
		{"update u set p = 1; delete from t where a = 2; delete from t where a = 1", 2, api.ErrChild},
		{"delete from u where k = 5; delete from t where a = 2", 1, api.ErrChild},
		{"insert into u values (9, 3); delete from t where a = 3", 1, api.ErrChild},
		// Rows of the same table: a row may name itself, and is taken away then.
		{"update t set d = 1 where a = 1; delete from t where a = 1", 0, api.OK},
		{"update t set d = 1 where a = 3; delete from t where a = 1", 1, api.ErrChild},
		{"update t set d = 3 where a = 1; delete from t where b = 'x'", 0, api.OK},
		// In order: the row 1 is still named by 3, which would go behind it.
		{"update t set d = 1 where a = 3; delete from t where b = 'x'", 1, api.ErrChild},
	} {
		for _, state := range []int{api.WriteOnly, api.Public} {
			answers(t, linked(state), three(), c.line, c.at, c.want)
		}
		done(t, linked(api.DeleteOnly), three(), c.line)
	}
}

// P21.1: the tables, and the foreign keys of each, are gone through in order; all rows of a table are looked at, of none without a row that is meant.
func TestChildrenAsked(t *testing.T) {
	s := linked(api.Public)
	r := three()
	x := done(t, s, r, "delete from t where a = 9; delete from t where a = 1; delete from t where a = 3")
	checkReads(t, x, r, single(keyOf(9)), single(keyOf(1)), rows.Table(1), rows.Table(6), single(keyOf(3)))
	// With nothing that names it, or by one that doesn't count, no rows are.
	r = three()
	x = done(t, s, r, "delete from u where k = 5")
	checkReads(t, x, r, single(rows.Row(6, number(5))))
	r = three()
	x = done(t, linked(api.DeleteOnly), r, "delete from t where a = 2")
	checkReads(t, x, r, single(keyOf(2)))
	// Two over two columns: the second one is looked at, too.
	s.Tables[1].Columns = append(s.Tables[1].Columns, api.Column{Id: 14, Name: "q", Kind: api.Int, State: api.Public})
	s.Tables[1].Keys = append(s.Tables[1].Keys, api.Foreign{Id: 15, Name: "g", Column: 14, Parent: 1, State: api.WriteOnly})
	s.Last = 15
	fails(t, s, three().row(6, cell(7, number(9)), cell(14, number(3))), "delete from t where a = 3", 0, api.ErrChild)
	// A hit that is no row names nothing.
	done(t, base(), newShop().row(1, rowOf(number(1), text("x"), number(11), api.Value{})...).lay(rows.Row(6, number(9)), "x"), "delete from t")
}

// many answers a shop with n rows of t, from 1 on, with their entries, all of one value of b; and m of u without a parent.
func many(n, m int) *shop {
	s := newShop()
	for i := range n {
		k := number(int64(i + 1))
		s.row(1, rowOf(k, text("x"), api.Value{}, api.Value{})...).entry(9, text("x"), k).entry(10, api.Value{}, k)
	}
	for i := range m {
		s.row(6, cell(7, number(int64(i+1))), cell(8, api.Value{}))
	}
	return s
}

// P21.1: at most 64 hits of a table's rows, or of entries, are looked at in one go: whatever is done with them, and whatever a statement ahead has put or taken.
func TestMany(t *testing.T) {
	for _, c := range []struct {
		n, m int
		line string
		at   int
		want api.Errno
	}{
		{64, 0, "select * from t", 0, api.OK},
		{65, 0, "select * from t", 0, api.ErrMany},
		{64, 0, "select * from t where b = 'x'", 0, api.OK},
		{65, 0, "select * from t where b = 'x'", 0, api.ErrMany},
		{65, 0, "select * from t where b = 'y'", 0, api.OK},
		{64, 0, "select * from t where d = 1", 0, api.OK},
		{65, 0, "select * from t where d = 1", 0, api.ErrMany},
		{65, 0, "select * from t where a = 65", 0, api.OK},
		{64, 0, "update t set d = 1", 0, api.OK},
		{65, 0, "update t set d = 1", 0, api.ErrMany},
		{64, 0, "update t set b = 'y' where b = 'x'", 0, api.OK},
		{65, 0, "update t set b = 'y' where b = 'x'", 0, api.ErrMany},
		{65, 0, "update t set b = 'y' where a = 65", 0, api.OK},
		{64, 64, "delete from t", 0, api.OK},
		{65, 64, "delete from t", 0, api.ErrMany},
		{64, 64, "delete from t where b = 'x'", 0, api.OK},
		{65, 64, "delete from t where b = 'x'", 0, api.ErrMany},
		{65, 64, "delete from t where a = 65", 0, api.OK},
		{65, 65, "delete from t where a = 65", 0, api.ErrMany},
		{65, 65, "delete from t where a = 66", 0, api.OK},
		{64, 65, "delete from t where b = 'y'; update t set b = 'y'", 0, api.OK},
		// What a statement ahead has put counts, and what it has taken doesn't.
		{64, 0, "insert into t values (65, 'x', null, null); select * from t", 1, api.ErrMany},
		{64, 0, "insert into t values (65, 'x', null, null); select * from t where b = 'x'", 1, api.ErrMany},
		{64, 0, "insert into t values (65, 'y', null, null); select * from t where b = 'x'", 0, api.OK},
		{65, 0, "delete from t where a = 1; select * from t", 0, api.OK},
		{65, 0, "delete from t where a = 1; select * from t where b = 'x'", 0, api.OK},
		{66, 0, "delete from t where a = 1; select * from t", 1, api.ErrMany},
		{64, 0, "delete from t where a = 1; insert into t values (65, 'x', null, null); select * from t", 0, api.OK},
	} {
		r := many(c.n, c.m)
		answers(t, base(), r, c.line, c.at, c.want)
	}
}

// P21.1: likewise of the entries that a Unique index has of a row's value.
func TestManyEntriesOfOneValue(t *testing.T) {
	r := newShop()
	for i := range 64 {
		r.entry(10, number(14), number(int64(100+i)))
	}
	fails(t, base(), r, "insert into t values (4, 'x', 14, null)", 0, api.ErrTwice)
	r.entry(10, number(14), number(99))
	fails(t, base(), r, "insert into t values (4, 'x', 14, null)", 0, api.ErrMany)
	done(t, base(), r, "insert into t values (4, 'x', 15, null)")
}

// P21.1: 64 rows are all told, in order.
func TestManyRows(t *testing.T) {
	x := done(t, base(), many(64, 0), "select * from t; update t set d = 1; select * from t where b = 'x'")
	for _, at := range []int{0, 2} {
		for i, list := range x.Replies[at].Rows {
			if list[0] != number(int64(i+1)) || list[3] != []api.Value{{}, {}, number(1)}[at] {
				t.Fatalf("the row %d is told as %v", i, list)
			}
		}
		if n := len(x.Replies[at].Rows); n != 64 {
			t.Fatalf("%d rows are told", n)
		}
	}
	if x.Replies[1].N != 64 || len(x.Writes) != 3*64 {
		t.Fatalf("%d rows are updated, %d keys written", x.Replies[1].N, len(x.Writes))
	}
}

// P21.1: a list may be as long as one likes: what is kept to is what one go looks at.
func TestManyStatements(t *testing.T) {
	s := laid(func(t, u *api.Table) { u.Keys = nil })
	var list []api.Bound
	for i := range 3000 {
		list = append(list, statements(t, s, "insert into u values ("+strconv.Itoa(i)+", null)")...)
	}
	x := run(t, s, list, newShop())
	if len(x.Reads) != 3000 || len(x.Writes) != 3000 || len(x.Replies) != 3000 {
		t.Fatalf("%d reads, %d writes, %d replies", len(x.Reads), len(x.Writes), len(x.Replies))
	}
	refused(t, s, append(list, statements(t, s, "select * from u")...), newShop(), 3000, api.ErrMany)
}
