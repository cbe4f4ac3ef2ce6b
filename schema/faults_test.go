package schema_test

import (
	"testing"

	"lintel/api"
)

// ask is what Turn is told.
type ask struct {
	s     api.Schema
	d     api.Ddl
	state int
}

// fault is something wrong, and the error that it is answered with.
type fault struct {
	err  api.Errno
	make func(a *ask)
}

// firstFaults are those of all changes, in order; they are named ahead of all others.
func firstFaults() []fault {
	return []fault{
		{api.ErrForm, func(a *ask) { a.s.Version = -1 }},
		{api.ErrForm, func(a *ask) { a.state = 4 }},
	}
}

// tableFaults are those of AddTable, in order.
func tableFaults() []fault {
	return append(firstFaults(),
		fault{api.ErrForm, func(a *ask) { a.d.Table = "X" }},
		fault{api.ErrForm, func(a *ask) { a.d.Columns[1].Name = "" }},
		fault{api.ErrThere, func(a *ask) { a.d.Table = "u" }},
		fault{api.ErrThere, func(a *ask) { a.d.Columns[2].Name = a.d.Columns[0].Name }},
		fault{api.ErrMany, func(a *ask) { a.s = full() }},
		fault{api.ErrMany, func(a *ask) { a.d.Columns = append(a.d.Columns, columns(6)...) }},
		fault{api.ErrKind, func(a *ask) { a.d.Columns[2].Kind = 0 }},
		fault{api.ErrArg, func(a *ask) { a.state = api.WriteOnly }},
	)
}

// elementFaults are those of a change that adds an element which isn't there, in order: those of all sorts around those of this one.
func elementFaults(badName func(a *ask), own ...fault) []fault {
	list := append(firstFaults(),
		fault{api.ErrTable, func(a *ask) { a.d.Table = "none" }},
		fault{api.ErrForm, badName},
		fault{api.ErrMany, func(a *ask) { a.s = full() }},
	)
	list = append(list, own...)
	return append(list, fault{api.ErrArg, func(a *ask) { a.state = api.Absent }})
}

// checkFaults puts every choice of faults in one ask: the first one of them is told, or what is told without one.
func checkFaults(t *testing.T, d api.Ddl, without api.Errno, faults []fault) {
	t.Helper()
	for chosen := range 1 << len(faults) {
		a := ask{s: rich(), d: d, state: api.Public}
		a.d.Columns = append([]api.Column(nil), d.Columns...)
		want := without
		// From the last one on, so that one named earlier is not undone by a later one.
		for i := len(faults) - 1; i >= 0; i-- {
			if chosen>>i&1 == 1 {
				faults[i].make(&a)
				want = faults[i].err
			}
		}
		if want == api.OK {
			turned(t, a.s, a.d, a.state)
		} else {
			checkRefused(t, a.s, a.d, a.state, want)
		}
	}
}

// P15.3: where several things are wrong the one that is named first is told.
func TestWhichFault(t *testing.T) {
	badName := func(a *ask) { a.d.Name = "X" }
	noColumn := fault{api.ErrColumn, func(a *ask) { a.d.Column = "w" }}
	checkFaults(t, newTable("x", column("a", api.Int), column("b", api.Text), column("c", api.Int)), api.OK, tableFaults())
	checkFaults(t, api.Ddl{Kind: api.AddIndex, Table: "t", Name: "i", Column: "b"}, api.OK, elementFaults(badName, noColumn))
	checkFaults(t, api.Ddl{Kind: api.AddForeign, Table: "t", Name: "i", Column: "b", Parent: "u"}, api.OK, elementFaults(badName, noColumn,
		fault{api.ErrTable, func(a *ask) { a.d.Parent = "none" }},
		fault{api.ErrKind, func(a *ask) { a.d.Column = "a" }},
	))
	checkFaults(t, api.Ddl{Kind: api.AddColumn, Table: "t", Column: "x", Type: api.Int, Default: number(1)}, api.OK, elementFaults(
		func(a *ask) { a.d.Column = "X" },
		fault{api.ErrKind, func(a *ask) { a.d.Type = 3 }},
		fault{api.ErrKind, func(a *ask) { a.d.Default = text("x") }},
	))
	noKind := fault{api.ErrArg, func(a *ask) { a.d.Kind = 8 }}
	noTable := fault{api.ErrTable, func(a *ask) { a.d.Table = "none" }}
	for _, kind := range []int{api.DropIndex, api.DropForeign} {
		none := fault{api.ErrName, func(a *ask) { a.d.Name = "" }}
		checkFaults(t, api.Ddl{Kind: kind, Table: "t", Name: "pub"}, api.OK, append(firstFaults(), noKind, noTable, none))
	}
	checkFaults(t, api.Ddl{Kind: api.DropColumn, Table: "t", Column: "b"}, api.OK, append(firstFaults(), noKind, noTable,
		fault{api.ErrColumn, func(a *ask) { a.d.Column = "X" }},
		fault{api.ErrUsed, func(a *ask) { a.d.Column = "a" }},
		fault{api.ErrUsed, func(a *ask) { a.d.Column = "c" }},
	))
}

// P15.3: an element that is there is found ahead of all else that might be wrong with a new one.
func TestThereAheadOfTheRest(t *testing.T) {
	for _, d := range []api.Ddl{
		{Kind: api.AddIndex, Table: "t", Name: "pub", Column: "none"},
		{Kind: api.AddForeign, Table: "t", Name: "pub", Column: "none"},
		{Kind: api.AddColumn, Table: "t", Column: "a", Type: 9},
	} {
		checkFaults(t, d, api.ErrThere, append(firstFaults(),
			fault{api.ErrArg, func(a *ask) { a.d.Kind = 0 }},
			fault{api.ErrTable, func(a *ask) { a.d.Table = "none" }},
			fault{api.ErrThere, func(a *ask) { a.s = full() }},
			fault{api.ErrThere, func(a *ask) { a.state = api.Absent }},
		))
	}
}
