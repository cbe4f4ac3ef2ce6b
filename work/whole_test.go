package work_test

import (
	"math/rand"
	"slices"
	"testing"

	"lintel/api"
	"lintel/exec"
	"lintel/rows"
	"lintel/schema"
	"lintel/work"
)

// A world is a store in which statements and a job's pieces are done side by side: each is committed just if what it has read is still so.
type world struct {
	t      *testing.T
	r      *rand.Rand
	schema api.Schema
	shop   *shop
	now    int
	job    api.Job
	under  []work.Piece // those that are under way
}

// newWorld answers a world with some rows of t and u, whose elements are Public, but for the one that the change adds: that has a state. The change needn't hold.
func newWorld(t *testing.T, r *rand.Rand, d api.Ddl, state int) *world {
	w := &world{t: t, r: r, shop: newShop(), job: job(d, "")}
	ints := func(names ...string) []api.Column {
		var out []api.Column
		for _, n := range names {
			out = append(out, api.Column{Name: n, Kind: api.Int})
		}
		return out
	}
	for _, d := range []api.Ddl{
		{Kind: api.AddTable, Table: "t", Columns: ints("a", "b", "c")}, {Kind: api.AddTable, Table: "u", Columns: ints("k")},
		{Kind: api.AddIndex, Table: "t", Name: "o", Column: "c"},
	} {
		w.turn(d, api.Public)
	}
	// The rows were written when there was no such element yet.
	for n := range int64(r.Intn(12)) {
		w.statement(api.Bound{Kind: api.Insert, Table: 1, Values: []api.Value{number(n * 3 % 16), w.some(), w.some()}})
	}
	for n := range int64(14) {
		if r.Intn(8) > 0 {
			w.statement(api.Bound{Kind: api.Insert, Table: 5, Values: []api.Value{number(n)}})
		}
	}
	w.turn(d, state)
	return w
}

func (w *world) turn(d api.Ddl, state int) {
	s, err := schema.Turn(w.schema, d, state)
	if err != api.OK {
		w.t.Fatalf("%+v: %d", d, err)
	}
	w.schema = s
}

func (w *world) some() api.Value {
	if w.r.Intn(4) == 0 {
		return api.Value{}
	}
	return number(int64(w.r.Intn(14)))
}

// commit writes, if what was read is still so.
func (w *world) commit(e api.Effect) bool {
	for _, x := range e.Reads {
		var now []api.Stamp
		for _, h := range w.shop.shown(x.Span) {
			now = append(now, api.Stamp{Key: h.Key, Ts: h.Ts})
		}
		if !slices.Equal(now, x.Seen) {
			return false
		}
	}
	w.now++
	for _, x := range e.Writes {
		if x.Dead {
			delete(w.shop.hits, x.Key)
		} else {
			w.shop.hits[x.Key] = api.Hit{Key: x.Key, Ts: w.now, Value: x.Value}
		}
	}
	return true
}

// statement does a statement, if it may be.
func (w *world) statement(b api.Bound) {
	if e, _, err := exec.Run(w.schema, []api.Bound{b}, w.shop); err == api.OK {
		w.commit(e)
	}
}

// write does a statement by chance.
func (w *world) write() {
	key := number(int64(w.r.Intn(16)))
	b := api.Bound{Kind: 1 + w.r.Intn(3), Table: 1, Set: 3, To: w.some(), Where: 2, Is: key}
	if w.r.Intn(3) == 0 {
		b.Set = 4
	}
	b.Values = []api.Value{key, w.some(), w.some()}
	if w.r.Intn(5) == 0 {
		b = api.Bound{Kind: []int{api.Insert, api.Delete}[w.r.Intn(2)], Table: 5, Values: []api.Value{key}, Where: 6, Is: key}
	}
	w.statement(b)
}

// work goes on with a move by chance, statements between its pieces, until one that is committed is over or has a reason: that one is answered.
func (w *world) work(m api.Move) work.Piece {
	for range 5000 {
		switch w.r.Intn(5) {
		case 0, 1:
			w.under = append(w.under, cut(w.t, w.schema, w.job, m, w.shop))
		case 2:
			w.write()
		default:
			if len(w.under) == 0 {
				continue
			}
			at := w.r.Intn(len(w.under))
			p := w.under[at]
			w.under = slices.Delete(w.under, at, at+1)
			if !w.commit(p.Effect) {
				continue
			}
			if p.Over || p.Why != api.OK {
				return p
			}
			// At times a Mark is lost: then the job starts again where it knows that it was.
			if w.r.Intn(4) > 0 {
				w.job.Mark = max(w.job.Mark, p.Mark)
			}
		}
	}
	w.t.Fatalf("%+v isn't over", w.job)
	return work.Piece{}
}

// rowsOf answers a table's rows, by their key values, each by its columns' ids.
func (w *world) rowsOf(table int) map[api.Value]map[int]api.Value {
	out := map[api.Value]map[int]api.Value{}
	for _, h := range w.shop.shown(rows.Table(table)) {
		k, _ := rows.Key(h.Key)
		out[k] = cellsOf(h)
	}
	return out
}

// twice tells whether two rows of t have one value in a column.
func (w *world) twice(column int) bool {
	had := map[api.Value]int{}
	for _, row := range w.rowsOf(1) {
		had[row[column]]++
		if v := row[column]; v != (api.Value{}) && had[v] > 1 {
			return true
		}
	}
	return false
}

// orphan tells whether a row of t names none of a table.
func (w *world) orphan(column, parent int) bool {
	there := w.rowsOf(parent)
	for _, row := range w.rowsOf(1) {
		if v := row[column]; v != (api.Value{}) && there[v] == nil {
			return true
		}
	}
	return false
}

// checkEntries looks whether an index has just the entries of the rows of t.
func (w *world) checkEntries(index, column int) {
	w.t.Helper()
	var want, got []string
	for k, row := range w.rowsOf(1) {
		want = append(want, rows.Entry(index, row[column], k))
	}
	for _, h := range w.shop.shown(rows.Index(index)) {
		got = append(got, h.Key)
	}
	slices.Sort(want)
	if !slices.Equal(got, want) {
		w.t.Fatalf("entries %q, not just the rows' %q", got, want)
	}
}

// checkNone looks whether an index has no entries.
func (w *world) checkNone(index int) {
	w.t.Helper()
	if list := w.shop.shown(rows.Index(index)); len(list) > 0 {
		w.t.Fatalf("there are entries: %+v", list)
	}
}

// P23.3: a fill leaves of an index just its rows' entries, statements going on all the while; or there are two rows of one value, and then a sweep leaves no entry.
func TestIndexIsFilled(t *testing.T) {
	r := rand.New(rand.NewSource(231))
	count := map[api.Errno]int{}
	for n := range 3000 {
		d := api.Ddl{Kind: api.AddIndex, Table: "t", Name: "i", Column: "b", Unique: n%4 > 0}
		w := newWorld(t, r, d, api.WriteOnly)
		index := w.schema.Last
		// Some entries may be there already, but none without its row.
		for k, row := range w.rowsOf(1) {
			if r.Intn(8) == 0 {
				w.shop.entry(index, row[3], k)
			}
		}
		p := w.work(fill())
		count[p.Why]++
		switch p.Why {
		case api.OK:
			w.checkEntries(index, 3)
			if d.Unique && w.twice(3) {
				t.Fatal("there are two rows of one value, and no reason")
			}
		case api.ErrTwice:
			if !d.Unique || !w.twice(3) {
				t.Fatal("a reason without two rows of one value")
			}
			w.turn(d, api.DeleteOnly)
			w.under, w.job.Mark, w.job.Back = nil, "", true
			if p := w.work(sweep()); p.Why != api.OK {
				t.Fatalf("%+v", p)
			}
			w.checkNone(index)
		default:
			t.Fatalf("%+v", p)
		}
		w.checkEntries(w.schema.Tables[0].Indexes[0].Id, 4)
	}
	if count[api.OK] < 500 || count[api.ErrTwice] < 500 {
		t.Fatalf("ends: %v", count)
	}
}

// P23.3: a fill leaves of a column a cell in each row: its Default in those that were there, what else they had being as it was.
func TestColumnIsFilled(t *testing.T) {
	r := rand.New(rand.NewSource(232))
	for n := range 2000 {
		v := number(77)
		if n%4 == 0 {
			v = api.Value{}
		}
		d := api.Ddl{Kind: api.AddColumn, Table: "t", Column: "e", Type: api.Int, Default: v}
		w := newWorld(t, r, d, api.WriteOnly)
		if p := w.work(fill()); p.Why != api.OK {
			t.Fatalf("%+v", p)
		}
		for k, row := range w.rowsOf(1) {
			have, ok := row[w.schema.Last]
			if !ok || have != v || len(row) != 4 || row[2] != k {
				t.Fatalf("%v: %v", k, row)
			}
		}
		w.checkEntries(w.schema.Tables[0].Indexes[0].Id, 4)
	}
}

// P23.3: a fill of a foreign key has a reason just if there is a row without its parent, in another table or in its own.
func TestForeignIsFilled(t *testing.T) {
	r := rand.New(rand.NewSource(233))
	count := map[int]map[api.Errno]int{1: {}, 5: {}}
	for n := range 4000 {
		d := api.Ddl{Kind: api.AddForeign, Table: "t", Name: "f", Column: "b", Parent: "u"}
		parent := 5
		if n%2 == 0 {
			d.Parent, parent = "t", 1
		}
		w := newWorld(t, r, d, api.WriteOnly)
		p := w.work(fill())
		count[parent][p.Why]++
		want := api.OK
		if w.orphan(3, parent) {
			want = api.ErrParent
		}
		if p.Why != want || len(p.Effect.Writes) != 0 {
			t.Fatalf("to %s: %+v, not %d", d.Parent, p, want)
		}
	}
	for parent, c := range count {
		if c[api.OK] < 150 || c[api.ErrParent] < 150 {
			t.Fatalf("ends of the parent %d: %v", parent, c)
		}
	}
}

// P23.3: the pieces of a sweep leave no entry, statements going on all the while by a schema that has the index DeleteOnly.
func TestIndexIsSwept(t *testing.T) {
	r := rand.New(rand.NewSource(234))
	for range 1500 {
		d := api.Ddl{Kind: api.AddIndex, Table: "t", Name: "i", Column: "b"}
		w := newWorld(t, r, d, api.WriteOnly)
		index := w.schema.Last
		for k, row := range w.rowsOf(1) {
			w.shop.entry(index, row[3], k)
		}
		w.job.Ddl = dropIndex("i")
		w.turn(w.job.Ddl, api.DeleteOnly)
		p := w.work(sweep())
		if p.Why != api.OK || !p.Over {
			t.Fatalf("%+v", p)
		}
		w.checkNone(index)
	}
}
