package rows_test

import (
	"maps"
	"math/rand"
	"testing"

	"lintel/api"
	"lintel/rows"
)

// A store is what rows and entries are put into; its tables are the chapter's, the rows' keys 1 to 3.
type store map[string]string

// with answers the table as a writer has it who has the index in a state: none, if it is Absent.
func with(state int) api.Table {
	u := table(state)
	if state == api.Absent {
		u.Indexes = nil
	}
	return u
}

// change is a row that goes to something, by a writer who has the index in a state.
type change struct {
	state, key int
	to         []api.Cell // none: the row is gone
}

func (s store) do(t *testing.T, c change) {
	t.Helper()
	old, err := rows.Get(s[rows.Row(1, id(c.key))])
	if err != api.OK {
		t.Fatalf("the row %d has bytes that are no row's", c.key)
	}
	for _, w := range rows.Changes(with(c.state), old, c.to) {
		if w.Dead {
			delete(s, w.Key)
		} else {
			s[w.Key] = w.Value
		}
	}
}

// has answers how many keys of a span the store has.
func (s store) has(p api.Span) int {
	n := 0
	for key := range s {
		if has(p, key) {
			n++
		}
	}
	return n
}

// ofRows answers the entries that the rows have, by their cells.
func (s store) ofRows(t *testing.T) store {
	t.Helper()
	out := store{}
	for key, bytes := range s {
		if !has(rows.Table(1), key) {
			continue
		}
		list, err := rows.Get(bytes)
		k, keyErr := rows.Key(key)
		if err != api.OK || keyErr != api.OK || len(list) == 0 || rows.Of(list, 2) != k {
			t.Fatalf("%q, %q is no row", key, bytes)
		}
		out[rows.Entry(4, rows.Of(list, 3), k)] = ""
	}
	return out
}

// entries answers those that there are.
func (s store) entries() store {
	out := maps.Clone(s)
	maps.DeleteFunc(out, func(key, _ string) bool { return !has(rows.Index(4), key) })
	return out
}

// hold is what the promise says of entries and rows.
type hold func(t *testing.T, s store) bool

func none(t *testing.T, s store) bool { return s.has(rows.Index(4)) == 0 }

func someOfRows(t *testing.T, s store) bool {
	own := s.ofRows(t)
	for key, value := range s.entries() {
		if v, ok := own[key]; !ok || v != value {
			return false
		}
	}
	return true
}

func justRows(t *testing.T, s store) bool { return maps.Equal(s.entries(), s.ofRows(t)) }

// fill puts each row's entry.
func (s store) fill(t *testing.T) { maps.Copy(s, s.ofRows(t)) }

// pair is two states that may be in use at one time, what the promise says of them, and what of entries there is at first.
type pair struct {
	states [2]int
	holds  hold
	first  hold
}

func pairs() []pair {
	return []pair{
		{[2]int{api.Absent, api.DeleteOnly}, none, none},
		{[2]int{api.DeleteOnly, api.WriteOnly}, someOfRows, someOfRows},
		{[2]int{api.WriteOnly, api.Public}, justRows, justRows},
	}
}

// goals are what a row goes to: nothing, values that are unlike, null, and a row without a cell of the column.
func goals(key int) [][]api.Cell {
	k := cell(2, id(key))
	return [][]api.Cell{nil, cells(k, cell(3, text("x"))), cells(k, cell(3, text("y"))), cells(k, cell(3, api.Value{})), cells(k), cells(k, cell(3, text("x")), cell(9, number(1)))}
}

// firsts answers stores to begin with: of each row of the key 1 those whose entries are as is asked, with entries and without.
func firsts(t *testing.T, ask hold) []store {
	var list []store
	for _, row := range goals(1) {
		s := store{}
		s.do(t, change{state: api.Absent, key: 1, to: row})
		filled := maps.Clone(s)
		filled.fill(t)
		for _, x := range []store{s, filled} {
			if ask(t, x) {
				list = append(list, x)
			}
		}
	}
	return list
}

// walk goes all ways of so many changes of one row, each by a writer with one of the two states.
func walk(t *testing.T, p pair, s store, left int) {
	t.Helper()
	if !p.holds(t, s) {
		t.Fatalf("states %v: %q", p.states, s)
	}
	filled := maps.Clone(s)
	filled.fill(t)
	if p.states[1] >= api.WriteOnly && !justRows(t, filled) {
		t.Fatalf("states %v: filled it is %q", p.states, filled)
	}
	if left == 0 {
		return
	}
	for _, state := range p.states {
		for _, to := range goals(1) {
			next := maps.Clone(s)
			next.do(t, change{state: state, key: 1, to: to})
			walk(t, p, next, left-1)
		}
	}
}

// P20.4: all ways of three changes of one row, from all that there may be at first.
func TestTwoStates(t *testing.T) {
	for _, p := range pairs() {
		list := firsts(t, p.first)
		if len(list) == 0 {
			t.Fatalf("states %v: there is nothing to begin with", p.states)
		}
		for _, s := range list {
			walk(t, p, s, 3)
		}
	}
}

func anyChange(r *rand.Rand, states ...int) change {
	key := 1 + r.Intn(3)
	list := goals(key)
	return change{state: states[r.Intn(len(states))], key: key, to: list[r.Intn(len(list))]}
}

// P20.4: an index comes and goes, state by state, while rows are changed by writers who have either of two states; it is filled when all have it WriteOnly or Public, and swept when nobody puts entries.
func TestAnIndexComesAndGoes(t *testing.T) {
	r := rand.New(rand.NewSource(4))
	for range 300 {
		s := store{}
		stage := func(p pair) {
			for range r.Intn(12) {
				s.do(t, anyChange(r, p.states[0], p.states[1]))
				if !p.holds(t, s) {
					t.Fatalf("states %v: %q", p.states, s)
				}
			}
		}
		way := pairs()
		for _, p := range way {
			if p.states[0] == api.WriteOnly {
				s.fill(t)
			}
			stage(p)
		}
		stage(way[2])
		stage(way[1])
		// From here on nobody puts entries: those that are left are taken away.
		maps.DeleteFunc(s, func(key, _ string) bool { return has(rows.Index(4), key) })
		stage(way[0])
	}
}

// P20.4: rows that have no part in a change keep their entries, in all states: many rows by chance, from entries that aren't all there.
func TestManyRows(t *testing.T) {
	r := rand.New(rand.NewSource(44))
	for _, p := range pairs() {
		for range 300 {
			s := store{}
			for range r.Intn(6) {
				s.do(t, anyChange(r, api.Absent))
			}
			for entry := range s.ofRows(t) {
				if r.Intn(2) == 0 {
					s[entry] = ""
				}
			}
			if !p.first(t, s) {
				continue
			}
			for range 8 {
				s.do(t, anyChange(r, p.states[0], p.states[1]))
				if !p.holds(t, s) {
					t.Fatalf("states %v: %q", p.states, s)
				}
			}
		}
	}
}

// States that are not next to one another may not be used at one time: a writer without the index leaves an entry without its row.
func TestStatesFurtherApart(t *testing.T) {
	for _, state := range []int{api.WriteOnly, api.Public} {
		s := store{}
		s.do(t, change{state: state, key: 1, to: goals(1)[1]})
		s.do(t, change{state: api.Absent, key: 1, to: goals(1)[2]})
		if someOfRows(t, s) {
			t.Errorf("Absent and %d: %q", state, s)
		}
	}
	// And one who puts no entries leaves a public index without one.
	s := store{}
	s.do(t, change{state: api.Public, key: 1, to: goals(1)[1]})
	s.do(t, change{state: api.DeleteOnly, key: 1, to: goals(1)[2]})
	if justRows(t, s) {
		t.Errorf("DeleteOnly and Public: %q", s)
	}
}
