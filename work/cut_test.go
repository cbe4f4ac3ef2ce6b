package work_test

import (
	"slices"
	"testing"

	"lintel/api"
	"lintel/rows"
	"lintel/work"
)

// P23.2: of no hits up to seven: the first three are the piece's; it is over if there are no more, also if there are three.
func TestHowManyHits(t *testing.T) {
	for n := range int64(8) {
		r := newShop()
		for i := range n {
			r.row(1, rowOf(i+1, "x", number(i), api.Value{})...).entry(9, text("x"), number(i+1))
		}
		few := min(n, 3)
		mark, last, lastEntry := "", "", ""
		var dead []api.Write
		for i := range few {
			mark = keyOf(i + 1)
			dead = append(dead, gone(rows.Entry(9, text("x"), number(i+1))))
		}
		p := rows.Index(9)
		if n > 3 {
			last = mark
			lastEntry = dead[2].Key
			p.To = above(lastEntry)
		}
		all := []int64{1, 2, 3, 4, 5, 6, 7}
		checkCut(t, base(), job(newIndex("i"), ""), fill(), r, work.Piece{
			Effect: api.Effect{Reads: seen(r, span("", last)), Writes: entries(all[:few]...)}, Mark: mark, Over: n <= 3,
		})
		if few > 0 {
			mark = dead[few-1].Key
		}
		for _, d := range []api.Ddl{newIndex("i"), dropIndex("i")} {
			checkCut(t, base(), job(d, ""), sweep(), r, work.Piece{
				Effect: api.Effect{Reads: seen(r, p), Writes: dead}, Mark: mark, Over: n <= 3,
			})
		}
	}
}

// P23.2: a fill goes on above the job's mark, wherever that is: ahead of all rows, at a row, between two, behind all.
func TestFillFromMark(t *testing.T) {
	p := rows.Table(1)
	for mark, from := range map[string]int64{
		"": 1, "\x00": 1, p.From[:len(p.From)-1]: 1, rows.Row(0, number(9)): 1, p.From: 1, rows.Row(1, api.Value{}): 1, rows.Row(1, number(-5)): 1,
		keyOf(1): 2, above(keyOf(1)): 2, keyOf(2)[:len(keyOf(2))-1]: 1, keyOf(2) + "\xff": 3, keyOf(3): 4, keyOf(4): 5,
		keyOf(5): 6, above(keyOf(5)): 6, rows.Row(1, text("x")): 6, p.To: 6, above(p.To): 6, rows.Row(2, number(1)): 6, "\xff\xff": 6,
	} {
		r := five()
		first := span("", "")
		if mark >= first.From {
			first.From = above(mark)
		}
		var list []int64
		for n := from; n <= 5 && n < from+3; n++ {
			list = append(list, n)
		}
		want := work.Piece{Effect: api.Effect{Writes: entries(list...)}, Mark: mark, Over: true}
		if len(list) > 0 {
			want.Mark = keyOf(list[len(list)-1])
		}
		if from < 3 {
			want.Over, first.To = false, above(want.Mark)
		}
		want.Effect.Reads = seen(r, first)
		checkCut(t, base(), job(newIndex("i"), mark), fill(), r, want)
	}
}

// P23.2: a sweep goes through all entries, wherever the job's mark is; without any, the mark stays.
func TestSweepFromMark(t *testing.T) {
	for _, mark := range []string{"", "\x00", keyOf(3), rows.Entry(9, text("x"), number(2)), rows.Entry(9, text("z"), number(2)), rows.Index(9).To, "\xff\xff"} {
		r := newShop().entry(9, text("x"), number(1)).entry(9, text("x"), number(2)).entry(9, text("y"), number(0))
		list := []string{rows.Entry(9, text("x"), number(1)), rows.Entry(9, text("x"), number(2)), rows.Entry(9, text("y"), number(0))}
		checkCut(t, base(), job(dropIndex("i"), mark), sweep(), r, work.Piece{
			Effect: api.Effect{Reads: seen(r, rows.Index(9)), Writes: []api.Write{gone(list[0]), gone(list[1]), gone(list[2])}}, Mark: list[2], Over: true,
		})
		checkCut(t, base(), job(dropIndex("w"), mark), sweep(), r, work.Piece{
			Effect: api.Effect{Reads: seen(r, rows.Index(10))}, Mark: mark, Over: true,
		})
	}
}

// P23.2: all that lies in the index's span is swept away, entry or not, with a value or without one, and nothing beside it.
func TestSweepOfAnything(t *testing.T) {
	p := rows.Index(9)
	list := []string{p.From, p.From + "\x00", p.From + "\x01\x01", rows.Entry(9, text("x"), number(2)), p.From + "\x7f"}
	r := five().entry(8, text("x"), number(1)).entry(10, number(1), number(1)).lay(p.To, "").lay(p.From[:len(p.From)-1], "")
	var want []api.Write
	for i, key := range list {
		r.lay(key, []string{"", "x", bytesOf(cell(2, number(1)))}[i%3])
		want = append(want, gone(key))
	}
	first := api.Span{From: p.From, To: above(list[2])}
	checkCut(t, base(), job(newIndex("i"), ""), sweep(), r, work.Piece{Effect: api.Effect{Reads: seen(r, first), Writes: want[:3]}, Mark: list[2]})
	r.wrote(want[:3])
	checkCut(t, base(), job(newIndex("i"), list[2]), sweep(), r, work.Piece{Effect: api.Effect{Reads: seen(r, p), Writes: want[3:]}, Mark: list[4], Over: true})
	r.wrote(want[3:])
	checkCut(t, base(), job(newIndex("i"), list[4]), sweep(), r, work.Piece{Effect: api.Effect{Reads: seen(r, p)}, Mark: list[4], Over: true})
}

// P23.2: hits that are no rows count as hits, for the mark too, and nothing is done with them.
func TestHitsThatAreNoRows(t *testing.T) {
	for _, junk := range []string{"", "\x00", "x", "\x01\x01", bytesOf(rowOf(2, "x", number(1), api.Value{})...) + "\x01"} {
		r := five().lay(keyOf(2), junk).lay(rows.Table(1).From, junk).lay(above(keyOf(4)), junk)
		for _, c := range []struct {
			mark   string
			last   string
			writes []api.Write
			over   bool
		}{
			{"", keyOf(2), entries(1), false},
			{keyOf(2), above(keyOf(4)), entries(3, 4), false},
			{above(keyOf(4)), keyOf(5), entries(5), true},
			{keyOf(3), keyOf(5), entries(4, 5), true},
		} {
			to := c.last
			if c.over {
				to = ""
			}
			checkCut(t, base(), job(newIndex("i"), c.mark), fill(), r, work.Piece{
				Effect: api.Effect{Reads: seen(r, span(c.mark, to)), Writes: c.writes}, Mark: c.last, Over: c.over,
			})
		}
	}
}

// P23.2: entries are put in the rows' order, also of null, of rows that lack the column, and of those that stand otherwise in the index; those that are there already too.
func TestFillOfIndex(t *testing.T) {
	r := newShop().row(1, rowOf(1, "z", number(1), api.Value{})...).row(1, cell(2, number(2)), cell(4, number(5))).row(1, cell(2, number(3)), cell(3, api.Value{}))
	r.entry(9, text("z"), number(1))
	want := []api.Write{
		put(rows.Entry(9, text("z"), number(1)), ""), put(rows.Entry(9, api.Value{}, number(2)), ""), put(rows.Entry(9, api.Value{}, number(3)), ""),
	}
	checkCut(t, base(), job(newIndex("i"), ""), fill(), r, work.Piece{
		Effect: api.Effect{Reads: seen(r, span("", "")), Writes: want}, Mark: keyOf(3), Over: true,
	})
	if len(r.asked) != 1 {
		t.Fatalf("asked for %q", r.asked)
	}
}

// P23.2: the key value and the column's value are those of the row's cells, also if it lies at another key.
func TestRowAtAnotherKey(t *testing.T) {
	r := newShop().lay(keyOf(1), bytesOf(rowOf(8, "x", number(1), api.Value{})...)).lay(keyOf(2), bytesOf(cell(3, text("y"))))
	first := seen(r, span("", ""))
	checkCut(t, base(), job(newIndex("i"), ""), fill(), r, work.Piece{
		Effect: api.Effect{Reads: first, Writes: []api.Write{put(rows.Entry(9, text("x"), number(8)), ""), put(rows.Entry(9, text("y"), api.Value{}), "")}},
		Mark:   keyOf(2), Over: true,
	})
	checkCut(t, base(), job(newColumn("e"), ""), fill(), r, work.Piece{
		Effect: api.Effect{Reads: first, Writes: []api.Write{
			put(keyOf(1), bytesOf(append(rowOf(8, "x", number(1), api.Value{}), cell(6, number(7)))...)),
			put(keyOf(2), bytesOf(cell(3, text("y")), cell(6, number(7)))),
		}},
		Mark: keyOf(2), Over: true,
	})
	// The row that it is itself is told by its key value, too.
	r = newShop().lay(keyOf(1), bytesOf(rowOf(8, "x", api.Value{}, number(8))...))
	checkCut(t, base(), job(newForeign("g"), ""), fill(), r, work.Piece{
		Effect: api.Effect{Reads: seen(r, span("", ""))}, Mark: keyOf(1), Over: true,
	})
	r = newShop().lay(keyOf(1), bytesOf(rowOf(8, "x", api.Value{}, number(9))...))
	checkWhy(t, base(), job(newForeign("g"), ""), r, api.ErrParent, span("", ""), single(keyOf(9)))
}

// P23.2: a unique index's entries of each value are read, null's aside; those of the row itself are no reason.
func TestFillOfUnique(t *testing.T) {
	r := newShop()
	for n, c := range []api.Value{number(20), {}, number(10), {}, {}} {
		r.row(1, rowOf(int64(n+1), "x", c, api.Value{})...)
	}
	r.entry(10, number(20), number(1)).entry(10, api.Value{}, number(9)).entry(10, number(11), number(9)).entry(9, number(10), number(9))
	want := []api.Write{put(rows.Entry(10, number(20), number(1)), ""), put(rows.Entry(10, api.Value{}, number(2)), ""), put(rows.Entry(10, number(10), number(3)), "")}
	checkCut(t, base(), job(newIndex("w"), ""), fill(), r, work.Piece{
		Effect: api.Effect{Reads: seen(r, span("", keyOf(3)), rows.Equal(10, number(20)), rows.Equal(10, number(10))), Writes: want}, Mark: keyOf(3),
	})
	want = []api.Write{put(rows.Entry(10, api.Value{}, number(4)), ""), put(rows.Entry(10, api.Value{}, number(5)), "")}
	checkCut(t, base(), job(newIndex("w"), keyOf(3)), fill(), r, work.Piece{
		Effect: api.Effect{Reads: seen(r, span(keyOf(3), "")), Writes: want}, Mark: keyOf(5), Over: true,
	})
	// An index that isn't unique reads no entries, and has any number of a value.
	s := laid(func(t *api.Table) { t.Indexes[1].Unique = false })
	r.row(1, rowOf(3, "x", number(20), api.Value{})...).entry(10, number(20), number(9))
	if p := cut(t, s, job(newIndex("w"), ""), fill(), r); len(p.Effect.Reads) != 1 || len(p.Effect.Writes) != 3 || p.Why != api.OK {
		t.Fatalf("of an index that isn't unique: %+v", p)
	}
}

// P23.2: ErrTwice, if an entry of the value is of another key, whether it stands ahead of the row's own or behind it; nothing more is read.
func TestTwiceByEntry(t *testing.T) {
	for at := range int64(5) {
		mark := ""
		if at >= 3 {
			mark = keyOf(3)
		}
		for _, other := range []int64{-9, 0, 99} {
			r := five().entry(10, number(10*(at+1)), number(other)).entry(10, number(10*(at+1)), number(at+1))
			list := []api.Span{span("", keyOf(3))}
			if mark != "" {
				list[0] = span(mark, "")
			}
			for n := at / 3 * 3; n <= at; n++ {
				list = append(list, rows.Equal(10, number(10*(n+1))))
			}
			checkWhy(t, base(), job(newIndex("w"), mark), r, api.ErrTwice, list...)
			if !slices.Equal(r.asked[1:], list[1:]) {
				t.Fatalf("asked for %q", r.asked)
			}
		}
	}
	// What isn't an entry of that value is none of another key.
	r := five()
	for _, key := range []string{rows.Equal(10, number(10)).From, rows.Entry(10, number(10), number(9)) + "\x01", rows.Entry(10, number(10), number(9)) + "\x09", above(rows.Equal(10, number(10)).From)} {
		r.lay(key, "")
	}
	if p := cut(t, base(), job(newIndex("w"), ""), fill(), r); p.Why != api.OK || len(p.Effect.Writes) != 3 {
		t.Fatalf("of keys that are no entries: %+v", p)
	}
}

// P23.2: ErrTwice, if the piece itself has put an entry of the value; of a value of another kind or of null it is none.
func TestTwiceInOnePiece(t *testing.T) {
	x, n, u := text("x"), api.Value{}, number(0)
	for _, c := range []struct {
		list [3]api.Value
		at   int
	}{
		{[3]api.Value{u, u, number(1)}, 1}, {[3]api.Value{u, number(1), u}, 2}, {[3]api.Value{number(1), u, u}, 2}, {[3]api.Value{u, u, u}, 1},
		{[3]api.Value{n, n, n}, 3}, {[3]api.Value{u, n, x}, 3}, {[3]api.Value{x, x, n}, 1}, {[3]api.Value{text(""), n, u}, 3}, {[3]api.Value{n, u, u}, 2},
	} {
		r := newShop()
		list := []api.Span{span("", "")}
		for i, v := range c.list {
			r.row(1, rowOf(int64(i+1), "x", v, n)...)
			p := rows.Equal(10, v)
			if i <= c.at && v != n && !slices.Contains(list, p) {
				list = append(list, p)
			}
		}
		if c.at < 3 {
			checkWhy(t, base(), job(newIndex("w"), ""), r, api.ErrTwice, list...)
		} else if p := cut(t, base(), job(newIndex("w"), ""), fill(), r); p.Why != api.OK || len(p.Effect.Writes) != 3 {
			t.Fatalf("%v: %+v", c.list, p)
		}
		if !slices.Equal(r.asked, list) {
			t.Fatalf("%v: asked for %q, not once each %q", c.list, r.asked, list)
		}
	}
	// Of two rows that say that they are one, the second one comes too late, too.
	r := newShop().lay(keyOf(1), bytesOf(rowOf(1, "x", u, n)...)).lay(keyOf(2), bytesOf(rowOf(1, "x", u, n)...))
	checkWhy(t, base(), job(newIndex("w"), ""), r, api.ErrTwice, span("", ""), rows.Equal(10, u))
}

// P23.2: a row that lacks the column gets its Default, at its place among the cells; one that has it, null too, is let be.
func TestFillOfColumn(t *testing.T) {
	n := api.Value{}
	for _, c := range []struct {
		lacks, has []api.Cell
	}{
		{rowOf(1, "x", number(1), n), append(rowOf(2, "x", number(1), n), cell(6, number(8)))},
		{append(rowOf(1, "x", number(1), n), cell(9, text("of another one"))), append(rowOf(2, "x", number(1), n), cell(6, n))},
		{[]api.Cell{cell(2, number(1))}, []api.Cell{cell(2, number(2)), cell(6, number(7))}},
		{[]api.Cell{cell(2, number(1)), cell(7, n), cell(8, n)}, []api.Cell{cell(2, number(2)), cell(6, text("odd"))}},
	} {
		for _, v := range []api.Value{number(7), number(0), n, number(-1 << 63)} {
			s := laid(func(t *api.Table) { t.Columns[4].Default = v })
			r := newShop().row(1, c.lacks...).row(1, c.has...)
			want := put(keyOf(1), bytesOf(append(slices.Clone(c.lacks), cell(6, v))...))
			checkCut(t, s, job(newColumn("e"), ""), fill(), r, work.Piece{
				Effect: api.Effect{Reads: seen(r, span("", "")), Writes: []api.Write{want}}, Mark: keyOf(2), Over: true,
			})
			r.wrote([]api.Write{want})
			checkCut(t, s, job(newColumn("e"), ""), fill(), r, work.Piece{Effect: api.Effect{Reads: seen(r, span("", ""))}, Mark: keyOf(2), Over: true})
		}
	}
	// The row alone is put, no entry: not even of an index over that column.
	s := laid(func(t *api.Table) { t.Indexes[0].Column, t.Indexes[1].State = 6, api.Public })
	if p := cut(t, s, job(newColumn("e"), ""), fill(), five()); len(p.Effect.Writes) != 3 || len(p.Effect.Reads) != 1 {
		t.Fatalf("%+v", p)
	}
	// A column may stand ahead of others with greater ids, or behind them, and its id below theirs.
	s = laid(func(t *api.Table) {
		t.Columns[4].Id, t.Columns[2].Id, t.Indexes[1].Column, t.Keys[0].Column = 4, 6, 6, 6
	})
	r := newShop().row(1, cell(2, number(1)), cell(3, text("x")), cell(5, n), cell(6, n))
	checkCut(t, s, job(newColumn("e"), ""), fill(), r, work.Piece{
		Effect: api.Effect{Reads: seen(r, span("", "")), Writes: []api.Write{put(keyOf(1), bytesOf(cell(2, number(1)), cell(3, text("x")), cell(4, number(7)), cell(5, n), cell(6, n)))}},
		Mark:   keyOf(1), Over: true,
	})
}

// P23.2: a row's parent is read by its key, once; null has none to read.
func TestFillOfForeign(t *testing.T) {
	r := newShop()
	for n, c := range []api.Value{number(7), {}, number(7), number(8), number(9)} {
		r.row(1, rowOf(int64(n+1), "x", c, api.Value{})...)
	}
	for n := range int64(3) {
		r.row(13, cell(14, number(7+n)))
	}
	parent := func(n int64) api.Span { return single(rows.Row(13, number(n))) }
	checkCut(t, base(), job(newForeign("f"), ""), fill(), r, work.Piece{
		Effect: api.Effect{Reads: seen(r, span("", keyOf(3)), parent(7))}, Mark: keyOf(3),
	})
	if len(r.asked) != 2 {
		t.Fatalf("asked for %q", r.asked)
	}
	checkCut(t, base(), job(newForeign("f"), keyOf(3)), fill(), r, work.Piece{
		Effect: api.Effect{Reads: seen(r, span(keyOf(3), ""), parent(8), parent(9))}, Mark: keyOf(5), Over: true,
	})
	for _, junk := range []string{"gone", "", "x", "\x00"} {
		delete(r.hits, rows.Row(13, number(8)))
		// Beside the key there are others, and at the key there is no row's value.
		r.lay(above(rows.Row(13, number(8))), bytesOf(cell(14, number(8)))).row(15, cell(16, text("8"))).row(1, rowOf(8, "x", number(9), api.Value{})...)
		if junk != "gone" {
			r.lay(rows.Row(13, number(8)), junk)
		}
		checkWhy(t, base(), job(newForeign("f"), keyOf(2)), r, api.ErrParent, span(keyOf(2), keyOf(5)), parent(7), parent(8))
	}
}

// P23.2: a row may be its own parent, and the parent of a later one or an earlier one; only in its own table.
func TestParentsInTheTable(t *testing.T) {
	r := newShop()
	for n, d := range []int64{1, 3, 2} {
		r.row(1, rowOf(int64(n+1), "x", number(int64(n+1)), number(d))...)
	}
	checkCut(t, base(), job(newForeign("g"), ""), fill(), r, work.Piece{
		Effect: api.Effect{Reads: seen(r, span("", ""), single(keyOf(3)), single(keyOf(2)))}, Mark: keyOf(3), Over: true,
	})
	// In another table a row isn't its own parent.
	checkWhy(t, base(), job(newForeign("f"), ""), r, api.ErrParent, span("", ""), single(rows.Row(13, number(1))))
	delete(r.hits, keyOf(2))
	checkWhy(t, base(), job(newForeign("g"), ""), r, api.ErrParent, span("", ""), single(keyOf(2)))
}

// P23.2: states, Back, Drain, the job's Phase and End, and what else a change and a move tell make no difference.
func TestWhatIsNotAsked(t *testing.T) {
	for _, state := range []int{api.DeleteOnly, api.WriteOnly, api.Public} {
		s := laid(func(t *api.Table) {
			for i := range t.Indexes {
				t.Indexes[i].State, t.Keys[i].State = state, state
			}
			t.Columns[4].State = state
		})
		r := five().row(13, cell(14, number(10))).row(13, cell(14, number(20))).row(13, cell(14, number(30))).entry(9, text("x"), number(1))
		for _, c := range []struct {
			d api.Ddl
			m api.Move
		}{
			{newIndex("i"), fill()}, {newIndex("w"), fill()}, {newColumn("e"), fill()}, {newForeign("f"), fill()}, {newForeign("g"), fill()},
			{newIndex("i"), sweep()}, {dropIndex("i"), sweep()},
		} {
			want := cut(t, base(), job(c.d, ""), c.m, r)
			d := c.d
			d.Unique, d.Parent, d.Type, d.Default = !d.Unique, "nobody", 9, api.Value{Kind: 9}
			if d.Kind == api.AddColumn {
				d.Name = "i"
			} else {
				d.Column = "nobody"
			}
			c.m.State = 7
			checkCut(t, s, api.Job{Id: -1, Call: 4, By: api.Tid{Seq: 1}, Ddl: d, Phase: 99, Back: true, Drain: true, End: api.Done, Why: api.ErrTwice}, c.m, r, want)
		}
	}
}

// P23.2: rows of texts, the longest ones too.
func TestTextKeys(t *testing.T) {
	s := api.Schema{Version: 1, Last: 9, Tables: []api.Table{{
		Id: 1, Name: "t", Columns: []api.Column{{Id: 2, Name: "a", Kind: api.Text, State: api.Public}},
		Indexes: []api.Index{{Id: 3, Name: "w", Column: 2, Unique: true, State: api.WriteOnly}},
		Keys:    []api.Foreign{{Id: 4, Name: "g", Column: 2, Parent: 1, State: api.WriteOnly}},
	}}}
	r := newShop()
	var want []api.Write
	list := []api.Span{span("", rows.Row(1, text(long("\x00", 64))))}
	for _, k := range []string{"", "\x00", long("\x00", 64), "x"} {
		r.row(1, cell(2, text(k)))
		if k != "x" {
			want = append(want, put(rows.Entry(3, text(k), text(k)), ""))
			list = append(list, rows.Equal(3, text(k)))
		}
	}
	mark := rows.Row(1, text(long("\x00", 64)))
	checkCut(t, s, job(newIndex("w"), ""), fill(), r, work.Piece{Effect: api.Effect{Reads: seen(r, list...), Writes: want}, Mark: mark})
	checkCut(t, s, job(newForeign("g"), mark), fill(), r, work.Piece{Effect: api.Effect{Reads: seen(r, span(mark, ""))}, Mark: rows.Row(1, text("x")), Over: true})
}
