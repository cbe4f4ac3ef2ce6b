package bind_test

import (
	"testing"

	"lintel/api"
)

// ask is what Bind is told of one statement.
type ask struct {
	s    api.Schema
	stmt api.Stmt
}

// fault is something wrong, and the error that it is answered with.
type fault struct {
	err  api.Errno
	make func(a *ask)
}

// firstFaults are those of all statements, in order.
func firstFaults() []fault {
	return []fault{
		{api.ErrForm, func(a *ask) { a.s.Version = -1 }},
		{api.ErrArg, func(a *ask) { a.stmt.Kind = api.Change }},
		{api.ErrTable, func(a *ask) { a.stmt.Table = "none" }},
	}
}

// whereFaults are those of a statement with a Where, in order.
func whereFaults() []fault {
	return []fault{
		{api.ErrColumn, func(a *ask) { a.stmt.Where = "w" }},
		{api.ErrValue, func(a *ask) { a.stmt.Is = api.Value{Kind: 3} }},
		{api.ErrKind, func(a *ask) { a.stmt.Is = number(1) }},
	}
}

func insertFaults() []fault {
	to := func(i int, v api.Value) func(a *ask) { return func(a *ask) { a.stmt.Values[i] = v } }
	return append(firstFaults(), []fault{
		{api.ErrCount, func(a *ask) { a.stmt.Values = a.stmt.Values[:3] }},
		{api.ErrValue, to(0, api.Value{N: 1})},
		{api.ErrNull, to(0, api.Value{})},
		{api.ErrKind, to(0, text("x"))},
		{api.ErrValue, to(1, text(long("x", 65)))},
		{api.ErrKind, to(1, number(1))},
		{api.ErrValue, to(3, api.Value{Kind: api.Int, S: "x"})},
		{api.ErrKind, to(3, number(1))},
	}...)
}

func updateFaults() []fault {
	return append(append(firstFaults(), []fault{
		{api.ErrColumn, func(a *ask) { a.stmt.Set = "d" }},
		{api.ErrUsed, func(a *ask) { a.stmt.Set = "a" }},
		{api.ErrValue, func(a *ask) { a.stmt.To = api.Value{S: "x"} }},
		{api.ErrKind, func(a *ask) { a.stmt.To = text("x") }},
	}...), whereFaults()...)
}

// checkFaults puts every choice of faults in one statement: the first one of them is told. The last ones are made first, so that none undoes one that counts ahead of it.
func checkFaults(t *testing.T, stmt api.Stmt, faults []fault) {
	t.Helper()
	for chosen := range 1 << len(faults) {
		a := ask{s: rich(), stmt: stmt}
		a.stmt.Values = append([]api.Value(nil), stmt.Values...)
		want := api.OK
		for i := len(faults) - 1; i >= 0; i-- {
			if chosen>>i&1 == 1 {
				faults[i].make(&a)
				want = faults[i].err
			}
		}
		if want == api.OK {
			continue
		}
		refused(t, a.s, []api.Stmt{a.stmt}, 0, want)
	}
}

// P19.1: of several things that are wrong with a statement the first one is told.
func TestFirstFault(t *testing.T) {
	checkFaults(t, api.Stmt{Kind: api.Insert, Table: "t", Values: []api.Value{number(1), text("x"), number(2), text("y")}}, insertFaults())
	checkFaults(t, api.Stmt{Kind: api.Update, Table: "t", Set: "c", To: number(1), Where: "b", Is: text("x")}, updateFaults())
	for _, kind := range []int{api.Delete, api.Select} {
		checkFaults(t, api.Stmt{Kind: kind, Table: "t", Where: "b", Is: text("x")}, append(firstFaults(), whereFaults()...))
	}
}

// wrongStmts answers a statement for each error that one may be told.
func wrongStmts() map[api.Errno]api.Stmt {
	return map[api.Errno]api.Stmt{
		api.ErrArg:    {Kind: api.Change},
		api.ErrTable:  {Kind: api.Insert, Table: "none"},
		api.ErrCount:  {Kind: api.Insert, Table: "v"},
		api.ErrNull:   {Kind: api.Insert, Table: "v", Values: make([]api.Value, 1)},
		api.ErrValue:  {Kind: api.Delete, Table: "v", Where: "a", Is: api.Value{Kind: 3}},
		api.ErrKind:   {Kind: api.Select, Table: "v", Where: "a", Is: text("x")},
		api.ErrColumn: {Kind: api.Update, Table: "v", Set: "b"},
		api.ErrUsed:   {Kind: api.Update, Table: "v", Set: "a"},
	}
}

// P19.1: of several wrong statements the first one is told, with its place, whatever is wrong with those behind it.
func TestFirstWrongStatement(t *testing.T) {
	good := api.Stmt{Kind: api.Select, Table: "t"}
	for err, stmt := range wrongStmts() {
		for _, behind := range wrongStmts() {
			for place := range 12 {
				var list []api.Stmt
				for range place {
					list = append(list, good)
				}
				list = append(list, stmt, good, behind)
				refused(t, rich(), list, place, err)
			}
		}
	}
}

// P19.1: a list may be far longer than a text's.
func TestLongLists(t *testing.T) {
	const n = 1 << 16
	list := make([]api.Stmt, n)
	want := make([]api.Bound, n)
	for i := range list {
		list[i] = api.Stmt{Kind: api.Delete, Table: "u", Where: "n", Is: number(int64(i))}
		want[i] = api.Bound{Kind: api.Delete, Table: 20, Where: 21, Is: number(int64(i))}
	}
	bound(t, rich(), list, want...)
	list[n-1].Is = text("x")
	refused(t, rich(), list, n-1, api.ErrKind)
}
