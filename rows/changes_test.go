package rows_test

import (
	"math"
	"slices"
	"testing"

	"lintel/api"
	"lintel/rows"
)

// table answers the chapter's table, its index in a state.
func table(state int) api.Table {
	return api.Table{
		Id: 1, Name: "t",
		Columns: []api.Column{{Id: 2, Name: "a", Kind: api.Int, State: api.Public}, {Id: 3, Name: "b", Kind: api.Text, State: api.Public}},
		Indexes: []api.Index{{Id: 4, Name: "i", Column: 3, State: state}},
	}
}

// row answers the row 5 of that table.
func row(b api.Value) []api.Cell { return cells(cell(2, number(5)), cell(3, b)) }

// put and gone are writes, by the bytes of their keys' lists.
func put(value string, key ...api.Value) api.Write {
	return api.Write{Key: bytesOf(key...), Value: value}
}

func gone(key ...api.Value) api.Write { return api.Write{Key: bytesOf(key...), Dead: true} }

// bytesOfRow answers a row's bytes by the chapter's words.
func bytesOfRow(list []api.Cell) string {
	out := ""
	for _, c := range list {
		out += chunk(bytesOf(id(c.Id), c.Value))
	}
	return out
}

func checkChanges(t *testing.T, u api.Table, old, new []api.Cell, want ...api.Write) {
	t.Helper()
	if got := rows.Changes(u, old, new); !slices.Equal(got, want) {
		t.Fatalf("Changes(%+v, %#v, %#v):\n%#v, not\n%#v", u, old, new, got, want)
	}
}

// P20.3: the chapter's examples, and the row's end.
func TestExamples(t *testing.T) {
	x, y := row(text("x")), row(text("y"))
	zero, one, four, five := number(0), number(1), number(4), number(5)
	u := table(api.WriteOnly)
	checkChanges(t, u, nil, x, put(bytesOfRow(x), zero, one, five), put("", one, four, text("x"), five))
	checkChanges(t, u, x, y, put(bytesOfRow(y), zero, one, five), gone(one, four, text("x"), five), put("", one, four, text("y"), five))
	checkChanges(t, u, y, nil, gone(zero, one, five), gone(one, four, text("y"), five))
	u = table(api.DeleteOnly)
	checkChanges(t, u, nil, x, put(bytesOfRow(x), zero, one, five))
	checkChanges(t, u, x, y, put(bytesOfRow(y), zero, one, five), gone(one, four, text("x"), five))
	checkChanges(t, u, y, nil, gone(zero, one, five), gone(one, four, text("y"), five))
}

// steps are what a row may go from and to: no row, rows of all sorts of values in the index's column, and one without a cell of it.
func steps() [][]api.Cell {
	list := [][]api.Cell{nil, {}, cells(cell(2, number(5))), cells(cell(2, number(5)), cell(9, text("x")))}
	for _, v := range values() {
		list = append(list, row(v))
	}
	return list
}

// inColumn answers what a row of steps has in the index's column.
func inColumn(list []api.Cell) api.Value {
	if len(list) == 2 && list[1].Id == 3 {
		return list[1].Value
	}
	return api.Value{}
}

// P20.3: each step in each state, also in those that an index never has: what isn't WriteOnly or Public has its entries taken away, and gets none.
func TestEachStepInEachState(t *testing.T) {
	for _, state := range []int{api.Absent, api.DeleteOnly, api.WriteOnly, api.Public, 4, -1, math.MinInt} {
		u := table(state)
		gets := state == api.WriteOnly || state == api.Public
		for _, old := range steps() {
			for _, new := range steps() {
				v, w := inColumn(old), inColumn(new)
				first := put(bytesOfRow(new), number(0), number(1), number(5))
				dead := gone(number(1), number(4), v, number(5))
				born := put("", number(1), number(4), w, number(5))
				switch {
				case len(old) == 0 && len(new) == 0:
					checkChanges(t, u, old, new)
				case len(new) == 0:
					checkChanges(t, u, old, new, gone(number(0), number(1), number(5)), dead)
				case (len(old) == 0 || v == w) && !gets:
					checkChanges(t, u, old, new, first)
				case len(old) == 0 || v == w:
					checkChanges(t, u, old, new, first, born)
				case !gets:
					checkChanges(t, u, old, new, first, dead)
				default:
					checkChanges(t, u, old, new, first, dead, born)
				}
			}
		}
	}
}

// P20.3: indexes go in their order, each by its own column and state; two may be over one column, one over the key, and one over a column that the row lacks.
func TestManyIndexes(t *testing.T) {
	u := table(api.Public)
	u.Columns = append(u.Columns, api.Column{Id: 8, Name: "c", Kind: api.Int, State: api.WriteOnly})
	u.Indexes = []api.Index{
		{Id: 40, Column: 8, State: api.Public}, {Id: 12, Column: 3, Unique: true, State: api.DeleteOnly}, {Id: 13, Column: 2, Unique: true, State: api.WriteOnly},
		{Id: 11, Column: 3, State: api.Public}, {Id: 14, Column: 99, State: api.Public},
	}
	// What else a table has makes no difference.
	u.Keys = []api.Foreign{{Id: 20, Column: 3, Parent: 1, State: api.Public}}
	old := cells(cell(2, number(5)), cell(3, text("x")))
	new := cells(cell(2, number(5)), cell(3, text("y")), cell(8, number(7)))
	none, one, five := api.Value{}, number(1), number(5)
	checkChanges(t, u, old, new, put(bytesOfRow(new), number(0), one, five),
		gone(one, number(40), none, five), put("", one, number(40), number(7), five),
		gone(one, number(12), text("x"), five),
		put("", one, number(13), five, five),
		gone(one, number(11), text("x"), five), put("", one, number(11), text("y"), five),
		put("", one, number(14), none, five))
	checkChanges(t, u, nil, new, put(bytesOfRow(new), number(0), one, five),
		put("", one, number(40), number(7), five), put("", one, number(13), five, five),
		put("", one, number(11), text("y"), five), put("", one, number(14), none, five))
	checkChanges(t, u, new, nil, gone(number(0), one, five),
		gone(one, number(40), number(7), five), gone(one, number(12), text("y"), five), gone(one, number(13), five, five),
		gone(one, number(11), text("y"), five), gone(one, number(14), none, five))
}

// P20.3: without indexes the row alone is written.
func TestNoIndexes(t *testing.T) {
	u := table(api.Public)
	u.Indexes = nil
	x := row(text("x"))
	checkChanges(t, u, nil, x, put(bytesOfRow(x), number(0), number(1), number(5)))
	checkChanges(t, u, x, x, put(bytesOfRow(x), number(0), number(1), number(5)))
	checkChanges(t, u, x, nil, gone(number(0), number(1), number(5)))
}

// P20.3: the key value is the one of the table's first column, whatever its id; of old, if that has cells.
func TestKeyValue(t *testing.T) {
	u := table(api.Public)
	u.Columns[0], u.Columns[1] = u.Columns[1], u.Columns[0]
	x, y := row(text("x")), row(text("y"))
	zero, one, four := number(0), number(1), number(4)
	checkChanges(t, u, nil, y, put(bytesOfRow(y), zero, one, text("y")), put("", one, four, text("y"), text("y")))
	checkChanges(t, u, x, y, put(bytesOfRow(y), zero, one, text("x")), gone(one, four, text("x"), text("x")), put("", one, four, text("y"), text("x")))
	checkChanges(t, u, x, nil, gone(zero, one, text("x")), gone(one, four, text("x"), text("x")))
	// A row that lacks the first column has null there, also where the other one has it.
	lacks := cells(cell(2, number(5)))
	checkChanges(t, u, lacks, y, put(bytesOfRow(y), zero, one, api.Value{}), gone(one, four, api.Value{}, api.Value{}), put("", one, four, text("y"), api.Value{}))
	checkChanges(t, u, nil, lacks, put(bytesOfRow(lacks), zero, one, api.Value{}), put("", one, four, api.Value{}, api.Value{}))
	checkChanges(t, u, x, lacks, put(bytesOfRow(lacks), zero, one, text("x")), gone(one, four, text("x"), text("x")), put("", one, four, api.Value{}, text("x")))
}

// P20.3: nothing of no cells both, of a table without columns, and if Put refuses new, whatever old is.
func TestNothing(t *testing.T) {
	x := row(text("x"))
	for _, state := range []int{api.Absent, api.DeleteOnly, api.WriteOnly, api.Public} {
		u := table(state)
		for _, none := range [][]api.Cell{nil, {}, x[:0]} {
			checkChanges(t, u, none, nil)
			checkChanges(t, u, nil, none)
		}
		bare := u
		bare.Columns = nil
		checkChanges(t, bare, nil, nil)
		checkChanges(t, bare, nil, x)
		checkChanges(t, bare, x, x)
		checkChanges(t, bare, x, nil)
		for _, old := range [][]api.Cell{nil, x} {
			checkChanges(t, u, old, cells(cell(3, text("x")), cell(2, number(5))))
			checkChanges(t, u, old, cells(cell(2, number(5)), cell(2, number(5))))
			checkChanges(t, u, old, cells(cell(0, number(5)), cell(2, number(5))))
			checkChanges(t, u, old, cells(cell(-1, number(5))))
			for _, bad := range wrongs() {
				checkChanges(t, u, old, row(bad))
				checkChanges(t, u, old, cells(cell(2, bad)))
				checkChanges(t, u, old, append(row(text("x")), cell(4, bad)))
			}
		}
	}
	checkChanges(t, api.Table{}, nil, nil)
	checkChanges(t, api.Table{}, nil, x)
}

// P20.3: of old nothing is asked but its values: it may be cells that Put refuses. A value that may not be has the keys that P20.1 names for it.
func TestOldThatIsRefused(t *testing.T) {
	u := table(api.Public)
	y := row(text("y"))
	zero, one, four, five := number(0), number(1), number(4), number(5)
	falling := cells(cell(3, text("x")), cell(2, five))
	checkChanges(t, u, falling, y, put(bytesOfRow(y), zero, one, five), gone(one, four, text("x"), five), put("", one, four, text("y"), five))
	checkChanges(t, u, falling, nil, gone(zero, one, five), gone(one, four, text("x"), five))
	for _, bad := range wrongs() {
		checkChanges(t, u, row(bad), y, put(bytesOfRow(y), zero, one, five), api.Write{Dead: true}, put("", one, four, text("y"), five))
		checkChanges(t, u, cells(cell(2, bad), cell(3, text("x"))), nil, api.Write{Dead: true}, api.Write{Dead: true})
	}
}

// P20.3: ids of all sizes, of tables and of indexes.
func TestAnyIds(t *testing.T) {
	x, y := row(text("x")), row(text("y"))
	for _, n := range ids() {
		for _, m := range ids() {
			u := table(api.Public)
			u.Id, u.Indexes[0].Id = n, m
			checkChanges(t, u, x, y, put(bytesOfRow(y), number(0), id(n), number(5)),
				gone(number(1), id(m), text("x"), number(5)), put("", number(1), id(m), text("y"), number(5)))
		}
	}
}
