package parse_test

import (
	"math"
	"reflect"
	"strings"
	"testing"

	"lintel/api"
	"lintel/parse"
)

// P18.2: each form, as it is written.
func TestPrintForms(t *testing.T) {
	printed(t, "insert into t values (null, 5)", api.Stmt{Kind: api.Insert, Table: "t", Values: []api.Value{{}, number(5)}})
	for _, x := range samples() {
		printed(t, x.text, x.stmt)
	}
}

// P18.2: statements one behind the other; a change stands alone.
func TestPrintLists(t *testing.T) {
	for _, x := range samples() {
		for _, y := range samples() {
			if x.stmt.Kind == api.Change || y.stmt.Kind == api.Change {
				unprinted(t, x.stmt, y.stmt)
				unprinted(t, y.stmt, x.stmt)
				continue
			}
			printed(t, x.text+"; "+y.text, x.stmt, y.stmt)
			printed(t, x.text+"; "+y.text+"; "+x.text, x.stmt, y.stmt, x.stmt)
		}
	}
	unprinted(t)
	if s, e := parse.Print([]api.Stmt{}); s != "" || e != api.ErrArg {
		t.Fatal(s, e)
	}
}

// P18.2: MaxStmts statements have a text, one more has none.
func TestPrintMany(t *testing.T) {
	var list []api.Stmt
	for n := 1; n <= 20; n++ {
		list = append(list, api.Stmt{Kind: api.Delete, Table: "t"})
		if n > api.MaxStmts {
			unprinted(t, list...)
			continue
		}
		printed(t, strings.TrimSuffix(long("delete from t; ", n), "; "), list...)
	}
}

// P18.2: values as layer 1 prints them; those that may not be have no text.
func TestPrintValues(t *testing.T) {
	look := func(v api.Value, s string) {
		t.Helper()
		printed(t, "insert into t values ("+s+", "+s+")", api.Stmt{Kind: api.Insert, Table: "t", Values: []api.Value{v, v}})
		printed(t, "update t set a = "+s+" where b = "+s, api.Stmt{Kind: api.Update, Table: "t", Set: "a", To: v, Where: "b", Is: v})
		printed(t, "delete from t where b = "+s, api.Stmt{Kind: api.Delete, Table: "t", Where: "b", Is: v})
		printed(t, "select * from t where b = "+s, api.Stmt{Kind: api.Select, Table: "t", Where: "b", Is: v})
		if v.Kind != api.Null {
			s = " default " + s
		} else {
			s = ""
		}
		printed(t, "alter table t add column a text"+s, change(api.Ddl{Kind: api.AddColumn, Table: "t", Column: "a", Type: api.Text, Default: v}))
	}
	look(api.Value{}, "null")
	for _, n := range []int64{0, 1, -1, 10, -100, math.MaxInt64, math.MinInt64} {
		look(number(n), decimal(n))
	}
	for _, s := range []string{"", "x", "'", "''", "it's", "null", ")", "(", ",", ";", " ;", "a b", "\x00\xff\n", "\xc3\xa9", long("x", 64), long("'", 64)} {
		look(text(s), "'"+strings.ReplaceAll(s, "'", "''")+"'")
	}
	for _, v := range badValues() {
		unprinted(t, api.Stmt{Kind: api.Insert, Table: "t", Values: []api.Value{v}})
		unprinted(t, api.Stmt{Kind: api.Insert, Table: "t", Values: []api.Value{number(5), v}})
		unprinted(t, api.Stmt{Kind: api.Insert, Table: "t", Values: []api.Value{v, number(5)}})
		unprinted(t, api.Stmt{Kind: api.Update, Table: "t", Set: "a", To: v})
		unprinted(t, api.Stmt{Kind: api.Update, Table: "t", Set: "a", Where: "b", Is: v})
		unprinted(t, api.Stmt{Kind: api.Delete, Table: "t", Where: "b", Is: v})
		unprinted(t, api.Stmt{Kind: api.Select, Table: "t", Where: "b", Is: v})
		unprinted(t, change(api.Ddl{Kind: api.AddColumn, Table: "t", Column: "a", Type: api.Int, Default: v}))
	}
}

// decimal writes a number another way than the program.
func decimal(n int64) string {
	if n == math.MinInt64 {
		return "-9223372036854775808"
	}
	if n < 0 {
		return "-" + decimal(-n)
	}
	if n < 10 {
		return string([]byte{byte('0' + n)})
	}
	return decimal(n/10) + decimal(n%10)
}

// badValues may not be.
func badValues() []api.Value {
	return []api.Value{
		{N: 1}, {S: "x"}, {S: "null"}, {Kind: api.Int, S: "5"}, {Kind: api.Int, N: 5, S: "5"}, {Kind: api.Text, N: 1}, {Kind: api.Text, N: 5, S: "x"},
		text(long("x", 65)), text(long("x", 5000)), {Kind: 3}, {Kind: -1}, {Kind: math.MaxInt}, {Kind: math.MinInt},
	}
}

// P18.2: a statement has what the chapter names for its kind and nothing else: with anything put into one of its other fields there is no text; nor is it the same text with anything put into one of its own.
func TestPrintFields(t *testing.T) {
	own := map[int]string{
		api.Insert: "Kind Table Values", api.Update: "Kind Table Set To Where Is", api.Delete: "Kind Table Where Is", api.Select: "Kind Table Where Is",
		10 + api.AddTable: "Kind Table Columns", 10 + api.AddIndex: "Kind Table Name Column Unique", 10 + api.DropIndex: "Kind Table Name",
		10 + api.AddColumn: "Kind Table Column Type Default", 10 + api.DropColumn: "Kind Table Column",
		10 + api.AddForeign: "Kind Table Name Column Parent", 10 + api.DropForeign: "Kind Table Name",
	}
	for _, x := range samples() {
		names, ddl := strings.Fields(own[x.stmt.Kind]), []string(nil)
		if x.stmt.Kind == api.Change {
			names, ddl = []string{"Kind"}, strings.Fields(own[10+x.stmt.Ddl.Kind])
		}
		s := x.stmt
		strangers(t, x.text, s, &s, reflect.ValueOf(&s).Elem(), names)
		s = x.stmt
		strangers(t, x.text, s, &s, reflect.ValueOf(&s.Ddl).Elem(), ddl)
	}
}

// strangers puts something into each field of v, a part of s, that isn't of those named, and looks for ErrArg; was is s without it.
func strangers(t *testing.T, text string, was api.Stmt, s *api.Stmt, v reflect.Value, named []string) {
	t.Helper()
	for i := range v.NumField() {
		field := v.Type().Field(i).Name
		mine := false
		for _, n := range named {
			mine = mine || n == field
		}
		for _, some := range fillings(v.Field(i).Interface()) {
			v.Field(i).Set(reflect.ValueOf(some))
			got, e := parse.Print([]api.Stmt{*s})
			changed := !same([]api.Stmt{*s}, []api.Stmt{was})
			switch {
			case changed && !mine && (got != "" || e != api.ErrArg):
				t.Fatalf("%q with %s %v: %q, %d", text, field, some, got, e)
			case changed && mine && got == text, !changed && got != text:
				t.Fatalf("%q with its %s %v: %q, %d", text, field, some, got, e)
			}
			*s = was
		}
	}
}

// fillings answers some things of the type of what is there.
func fillings(there any) []any {
	switch there.(type) {
	case int:
		return []any{1, 2, -1, 77, 0}
	case string:
		return []any{"zz", "t", "?", " ", ""}
	case bool:
		return []any{true, false}
	case api.Value:
		return []any{number(99), number(0), text(""), text("zz"), api.Value{N: 1}, api.Value{S: "z"}, api.Value{Kind: 3}, api.Value{}}
	case []api.Value:
		return []any{[]api.Value{{}}, []api.Value{number(0), {}}, []api.Value{}, []api.Value(nil)}
	case []api.Column:
		return []any{[]api.Column{{}}, []api.Column{{Name: "zz", Kind: 1}}, []api.Column{}, []api.Column(nil)}
	case api.Ddl:
		return []any{api.Ddl{}, api.Ddl{Kind: 1}, api.Ddl{Table: "t"}}
	}
	panic("a field of another type")
}

// P18.2: columns of a new table have a Name and a Kind alone.
func TestPrintColumns(t *testing.T) {
	table := func(list ...api.Column) api.Stmt {
		return change(api.Ddl{Kind: api.AddTable, Table: "t", Columns: list})
	}
	good := api.Column{Name: "a", Kind: api.Int}
	printed(t, "create table t (a int, a int)", table(good, good))
	for _, c := range []api.Column{
		{}, {Name: "a"}, {Kind: api.Int}, {Name: "a", Kind: 3}, {Name: "a", Kind: -1}, {Name: "int", Kind: api.Int}, {Name: "A", Kind: api.Int},
		{Name: "a", Kind: api.Int, Id: 1}, {Name: "a", Kind: api.Int, State: api.Public}, {Name: "a", Kind: api.Text, Default: text("")}, {Name: "a", Kind: api.Int, Default: number(5)},
	} {
		unprinted(t, table(c))
		unprinted(t, table(good, c))
		unprinted(t, table(c, good))
	}
	unprinted(t, table())
	unprinted(t, api.Stmt{Kind: api.Insert, Table: "t"})
	unprinted(t, api.Stmt{Kind: api.Insert, Table: "t", Values: []api.Value{}})
}

// P18.2: names that are none have no text, whatever they would be read as.
func TestPrintNames(t *testing.T) {
	bad := append(reservedWords(), "", " ", "t ", " t", "T", "5", "a-b", "_a", "'a'", "abcdefghijklmnopq", "t where a = 1", "t; delete from u", "t (a int)", "a\n", "\xc3\xa9", "*", "(", ")", ",", ";", "=", "a)",
		"a = 5 where b", long("x", 2000), "t)", "?")
	for _, x := range samples() {
		s := x.stmt
		for _, p := range []*string{&s.Table, &s.Set, &s.Where, &s.Ddl.Table, &s.Ddl.Name, &s.Ddl.Column, &s.Ddl.Parent} {
			if *p == "" {
				continue
			}
			for _, word := range bad {
				if p == &s.Where && word == "" && s.Is == (api.Value{}) {
					continue // That is the statement without a where.
				}
				was := *p
				*p = word
				unprinted(t, s)
				if s.Kind != api.Change {
					unprinted(t, api.Stmt{Kind: api.Select, Table: "t"}, s)
				}
				*p = was
			}
		}
	}
}

// P18.2: kinds that there are not.
func TestPrintKinds(t *testing.T) {
	for _, k := range []int{0, -1, 6, 77, math.MaxInt, math.MinInt} {
		unprinted(t, api.Stmt{Kind: k})
		unprinted(t, api.Stmt{Kind: k, Table: "t"})
		unprinted(t, api.Stmt{Kind: api.Select, Table: "t"}, api.Stmt{Kind: k, Table: "t"})
		unprinted(t, api.Stmt{Kind: k, Table: "t"}, api.Stmt{Kind: api.Select, Table: "t"})
	}
	for _, k := range []int{0, -1, 8, 77, math.MaxInt, math.MinInt} {
		unprinted(t, change(api.Ddl{Kind: k}))
		unprinted(t, change(api.Ddl{Kind: k, Table: "t", Name: "i"}))
	}
	for _, k := range []int{0, -1, 3, 77} {
		unprinted(t, change(api.Ddl{Kind: api.AddColumn, Table: "t", Column: "a", Type: k}))
		unprinted(t, change(api.Ddl{Kind: api.AddColumn, Table: "t", Column: "a", Type: k, Default: number(5)}))
	}
	unprinted(t, api.Stmt{})
	unprinted(t, change(api.Ddl{}))
}

// P18.2: a text of MaxQuery bytes may be, one of a byte more is none.
func TestPrintLong(t *testing.T) {
	row := func(n int) (api.Stmt, string) {
		s := api.Stmt{Kind: api.Insert, Table: "t", Values: []api.Value{number(0)}}
		for range n {
			s.Values = append(s.Values, number(1))
		}
		return s, "insert into t values (0" + long(", 1", n) + ")"
	}
	for n := range 400 {
		s, want := row(n)
		if len(want) > api.MaxQuery {
			unprinted(t, s)
			continue
		}
		printed(t, want, s)
		// Up to the last byte, by the length of the table's name.
		for more := range api.MaxName {
			s.Table = "t" + long("x", more)
			longer := strings.Replace(want, " t ", " "+s.Table+" ", 1)
			if len(longer) > api.MaxQuery {
				unprinted(t, s)
			} else {
				printed(t, longer, s)
			}
		}
	}
	// A text without blanks may be short enough for what has none as it is printed.
	if _, _, e := parse.Parse("insert into t values(0" + long(",1", 400) + ")"); e != api.OK {
		t.Fatal(e)
	}
	big, _ := row(400)
	unprinted(t, big)
	unprinted(t, api.Stmt{Kind: api.Select, Table: long("t", 1<<24)})
	huge, _ := row(1 << 16)
	unprinted(t, huge, huge, huge, huge)
}
