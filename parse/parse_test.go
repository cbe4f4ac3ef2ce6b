package parse_test

import (
	"math"
	"reflect"
	"strings"
	"testing"

	"lintel/api"
	"lintel/parse"
)

func long(s string, n int) string { return strings.Repeat(s, n) }

func number(n int64) api.Value { return api.Value{Kind: api.Int, N: n} }

func text(s string) api.Value { return api.Value{Kind: api.Text, S: s} }

func change(d api.Ddl) api.Stmt { return api.Stmt{Kind: api.Change, Ddl: d} }

// plain makes nil of empty lists, which are one with it.
func plain(list []api.Stmt) []api.Stmt {
	var out []api.Stmt
	for _, s := range list {
		if len(s.Values) == 0 {
			s.Values = nil
		}
		if len(s.Ddl.Columns) == 0 {
			s.Ddl.Columns = nil
		}
		out = append(out, s)
	}
	return out
}

func same(a, b []api.Stmt) bool { return reflect.DeepEqual(plain(a), plain(b)) }

// parsed looks at the statements of s.
func parsed(t *testing.T, s string, want ...api.Stmt) {
	t.Helper()
	if got, at, e := parse.Parse(s); !same(got, want) || at != 0 || e != api.OK {
		t.Fatalf("Parse(%q): %+v, %d, %d, not %+v, 0, OK", s, got, at, e, want)
	}
}

// refused looks for an error, and where it is; there are no statements then.
func refused(t *testing.T, s string, at int, e api.Errno) {
	t.Helper()
	if got, gotAt, gotE := parse.Parse(s); len(got) != 0 || gotAt != at || gotE != e {
		t.Fatalf("Parse(%q): %+v, %d, %d, not none, %d, %d", s, got, gotAt, gotE, at, e)
	}
}

// printed looks at the text of statements.
func printed(t *testing.T, want string, list ...api.Stmt) {
	t.Helper()
	if s, e := parse.Print(list); s != want || e != api.OK {
		t.Fatalf("Print(%+v): %q, %d, not %q, OK", list, s, e, want)
	}
}

// unprinted looks for ErrArg, and no text beside it.
func unprinted(t *testing.T, list ...api.Stmt) {
	t.Helper()
	if s, e := parse.Print(list); s != "" || e != api.ErrArg {
		t.Fatalf("Print(%.300v): %q, %d, not none, ErrArg", list, s, e)
	}
}

// A sample is a text as Print writes it, and its statement.
type sample struct {
	text string
	stmt api.Stmt
}

// samples holds each form that the grammar has.
func samples() []sample {
	return []sample{
		{"insert into t values (5)", api.Stmt{Kind: api.Insert, Table: "t", Values: []api.Value{number(5)}}},
		{"insert into t values (5, 'x', null)", api.Stmt{Kind: api.Insert, Table: "t", Values: []api.Value{number(5), text("x"), {}}}},
		{"update t set a = 5", api.Stmt{Kind: api.Update, Table: "t", Set: "a", To: number(5)}},
		{"update t set a = null where b = 'it''s'", api.Stmt{Kind: api.Update, Table: "t", Set: "a", Where: "b", Is: text("it's")}},
		{"update t set a = 'y' where b = null", api.Stmt{Kind: api.Update, Table: "t", Set: "a", To: text("y"), Where: "b"}},
		{"delete from t", api.Stmt{Kind: api.Delete, Table: "t"}},
		{"delete from t where a = -7", api.Stmt{Kind: api.Delete, Table: "t", Where: "a", Is: number(-7)}},
		{"select * from t", api.Stmt{Kind: api.Select, Table: "t"}},
		{"select * from t where a = null", api.Stmt{Kind: api.Select, Table: "t", Where: "a"}},
		{"create table t (a int)", change(api.Ddl{Kind: api.AddTable, Table: "t", Columns: []api.Column{{Name: "a", Kind: api.Int}}})},
		{"create table t (a text, b int, c text)", change(api.Ddl{Kind: api.AddTable, Table: "t",
			Columns: []api.Column{{Name: "a", Kind: api.Text}, {Name: "b", Kind: api.Int}, {Name: "c", Kind: api.Text}}})},
		{"create index i on t (a)", change(api.Ddl{Kind: api.AddIndex, Table: "t", Name: "i", Column: "a"})},
		{"create unique index i on t (a)", change(api.Ddl{Kind: api.AddIndex, Table: "t", Name: "i", Column: "a", Unique: true})},
		{"drop index i on t", change(api.Ddl{Kind: api.DropIndex, Table: "t", Name: "i"})},
		{"alter table t add column a int", change(api.Ddl{Kind: api.AddColumn, Table: "t", Column: "a", Type: api.Int})},
		{"alter table t add column a text", change(api.Ddl{Kind: api.AddColumn, Table: "t", Column: "a", Type: api.Text})},
		{"alter table t add column a int default 5", change(api.Ddl{Kind: api.AddColumn, Table: "t", Column: "a", Type: api.Int, Default: number(5)})},
		{"alter table t add column a int default 'five'", change(api.Ddl{Kind: api.AddColumn, Table: "t", Column: "a", Type: api.Int, Default: text("five")})},
		{"alter table t add column a text default ''", change(api.Ddl{Kind: api.AddColumn, Table: "t", Column: "a", Type: api.Text, Default: text("")})},
		{"alter table t drop column a", change(api.Ddl{Kind: api.DropColumn, Table: "t", Column: "a"})},
		{"alter table t add foreign key f (a) references u", change(api.Ddl{Kind: api.AddForeign, Table: "t", Name: "f", Column: "a", Parent: "u"})},
		{"alter table t drop foreign key f", change(api.Ddl{Kind: api.DropForeign, Table: "t", Name: "f"})},
	}
}

// reservedWords are the grammar's own names.
func reservedWords() []string {
	return strings.Fields("insert into values update set delete from select where create table unique index on drop alter add column default foreign key references int text null")
}

// P18.1: the chapter's examples.
func TestExamples(t *testing.T) {
	parsed(t, "delete from t where a = 1;select * from t",
		api.Stmt{Kind: api.Delete, Table: "t", Where: "a", Is: number(1)}, api.Stmt{Kind: api.Select, Table: "t"})
	refused(t, "select * from t drop", 16, api.ErrSyntax)
	refused(t, "drop index i on t; delete from t", 17, api.ErrSyntax)
	refused(t, "", 0, api.ErrSyntax)
	parsed(t, "insert into t values (5, 'x')", api.Stmt{Kind: api.Insert, Table: "t", Values: []api.Value{number(5), text("x")}})
}

// P18.1: each form, what it is, and nothing else in it.
func TestForms(t *testing.T) {
	for _, x := range samples() {
		parsed(t, x.text, x.stmt)
		parsed(t, "\n\t"+strings.ReplaceAll(x.text, " ", " \n\t ")+" \n", x.stmt)
	}
}

// P18.1: blanks aren't needed where a sign or a text parts words.
func TestFewBlanks(t *testing.T) {
	parsed(t, "insert into t values(5,'x',null,-7)", api.Stmt{Kind: api.Insert, Table: "t", Values: []api.Value{number(5), text("x"), {}, number(-7)}})
	parsed(t, "update t set a='y'where b=5", api.Stmt{Kind: api.Update, Table: "t", Set: "a", To: text("y"), Where: "b", Is: number(5)})
	parsed(t, "update t set a=5where b=null", api.Stmt{Kind: api.Update, Table: "t", Set: "a", To: number(5), Where: "b"})
	parsed(t, "select*from t", api.Stmt{Kind: api.Select, Table: "t"})
	parsed(t, "create table t(a int,b text)", change(api.Ddl{Kind: api.AddTable, Table: "t", Columns: []api.Column{{Name: "a", Kind: api.Int}, {Name: "b", Kind: api.Text}}}))
	parsed(t, "create unique index i on t(a)", change(api.Ddl{Kind: api.AddIndex, Table: "t", Name: "i", Column: "a", Unique: true}))
	parsed(t, "alter table t add foreign key f(a)references u", change(api.Ddl{Kind: api.AddForeign, Table: "t", Name: "f", Column: "a", Parent: "u"}))
}

// P18.1: a default of null is none.
func TestNullDefault(t *testing.T) {
	parsed(t, "alter table t add column a int default null", change(api.Ddl{Kind: api.AddColumn, Table: "t", Column: "a", Type: api.Int}))
}

// P18.1: values, wherever they stand: the number and not how it is written.
func TestValues(t *testing.T) {
	for s, v := range map[string]api.Value{
		"null": {}, "0": number(0), "-0": number(0), "007": number(7), "-007": number(-7),
		"9223372036854775807": number(math.MaxInt64), "-9223372036854775808": number(math.MinInt64),
		"''": text(""), "'null'": text("null"), "'5'": text("5"), "'it''s'": text("it's"), "''''": text("'"), "'a;b)'": text("a;b)"),
		"'\x00\xff\n'": text("\x00\xff\n"), "'" + long("x", 64) + "'": text(long("x", 64)),
	} {
		parsed(t, "insert into t values ("+s+", "+s+")", api.Stmt{Kind: api.Insert, Table: "t", Values: []api.Value{v, v}})
		parsed(t, "update t set a = "+s+" where b = "+s, api.Stmt{Kind: api.Update, Table: "t", Set: "a", To: v, Where: "b", Is: v})
		parsed(t, "delete from t where a = "+s, api.Stmt{Kind: api.Delete, Table: "t", Where: "a", Is: v})
		parsed(t, "select * from t where a = "+s, api.Stmt{Kind: api.Select, Table: "t", Where: "a", Is: v})
		parsed(t, "alter table t add column a int default "+s, change(api.Ddl{Kind: api.AddColumn, Table: "t", Column: "a", Type: api.Int, Default: v}))
	}
}

// nameTexts are the grammar's forms with a @ at each place that a name stands at.
func nameTexts() []string {
	return []string{
		"insert into @ values (5)", "update @ set @ = 5 where @ = 6", "delete from @ where @ = 5", "select * from @ where @ = 5",
		"create table @ (@ int, @ text)", "create index @ on @ (@)", "create unique index @ on @ (@)", "drop index @ on @",
		"alter table @ add column @ int default 5", "alter table @ drop column @", "alter table @ add foreign key @ (@) references @", "alter table @ drop foreign key @",
	}
}

// eachName hands out the forms with a word in one of its names' places, and where that is.
func eachName(word string, look func(s string, at int)) {
	for _, form := range nameTexts() {
		parts := strings.Split(form, "@")
		for i := 1; i < len(parts); i++ {
			left, right := strings.Join(parts[:i], "t"), strings.Join(parts[i:], "t")
			look(left+word+right, len(left))
		}
	}
}

// P18.1: no reserved name stands for a name, and no value or sign does; all other names do.
func TestNames(t *testing.T) {
	for _, word := range append(reservedWords(), "5", "-7", "'t'", "''", "(", ")", ",", ";", "=", "*", "") {
		eachName(word, func(s string, at int) {
			// Without a name the fault is the next word, or the end.
			if word == "" {
				for at < len(s) && s[at] == ' ' {
					at++
				}
			}
			refused(t, s, at, api.ErrSyntax)
		})
	}
	for _, word := range []string{
		"a", "abcdefghijklmnop", "x_9", "inserts", "nul", "nulls", "ints", "integer", "tex", "fro", "wheres", "or", "and", "by", "as", "all", "begin", "rename", "primary",
		"to", "name", "number", "end", "value", "is", "set_", "key1", "tables", "change", "references_",
	} {
		eachName(word, func(s string, at int) {
			if list, _, e := parse.Parse(s); e != api.OK || len(list) != 1 {
				t.Fatalf("Parse(%q): %v, %d", s, list, e)
			}
			if again, e := parse.Print(parseAll(t, s)); e != api.OK || again != s {
				t.Fatalf("Print of Parse(%q): %q, %d", s, again, e)
			}
		})
	}
}

func parseAll(t *testing.T, s string) []api.Stmt {
	t.Helper()
	list, _, e := parse.Parse(s)
	if e != api.OK {
		t.Fatalf("Parse(%q): %d", s, e)
	}
	return list
}

// P18.1: a text that holds a sign or a reserved name is a value, not these.
func TestQuotedWords(t *testing.T) {
	for _, x := range samples() {
		words := strings.Fields(strings.NewReplacer("(", "( ", ")", " )", ",", " ,").Replace(x.text))
		for i, w := range words {
			if strings.HasPrefix(w, "'") || w == "5" || w == "-7" || w == "null" {
				continue
			}
			left := strings.Join(words[:i], " ") + " "
			refused(t, left+"'"+w+"' "+strings.Join(words[i+1:], " "), len(left), api.ErrSyntax)
		}
	}
}

// P18.1: where a text breaks off, the end is the word that may not be there.
func TestBrokenOff(t *testing.T) {
	for _, x := range samples() {
		words := strings.Fields(strings.NewReplacer("(", "( ", ")", " )", ",", " ,").Replace(x.text))
		for i := range words {
			s := strings.Join(words[:i], " ")
			if _, _, e := parse.Parse(s); e == api.OK {
				continue // A whole one without its where or default.
			}
			refused(t, s, len(s), api.ErrSyntax)
			refused(t, s+"  ", len(s)+2, api.ErrSyntax)
		}
	}
}

// P18.1: behind a statement stands ; or the end, behind a change the end alone.
func TestBehind(t *testing.T) {
	for _, x := range samples() {
		for _, w := range []string{"(", ")", ",", "=", "*", "5", "'x'", "t", "null", "into", "drop", "and", x.text} {
			refused(t, x.text+" "+w, len(x.text)+1, api.ErrSyntax)
		}
		s := x.text + " ;"
		if x.stmt.Kind == api.Change {
			refused(t, s, len(s)-1, api.ErrSyntax)
			refused(t, s+" select * from t", len(s)-1, api.ErrSyntax)
			continue
		}
		refused(t, s, len(s), api.ErrSyntax)
		refused(t, s+"; select * from t", len(s), api.ErrSyntax)
		parsed(t, s+"select * from t", x.stmt, api.Stmt{Kind: api.Select, Table: "t"})
	}
}

// P18.1: a change stands alone: its first word is wrong behind another statement.
func TestChangeAlone(t *testing.T) {
	for _, x := range samples() {
		if x.stmt.Kind != api.Change {
			continue
		}
		for n := 1; n <= api.MaxStmts; n++ {
			s := long("delete from t; ", n)
			refused(t, s+x.text, len(s), api.ErrSyntax)
		}
	}
}

// P18.1: the first word of a text.
func TestFirstWord(t *testing.T) {
	for _, w := range append(reservedWords(), "t", "5", "'x'", "(", ")", ",", ";", "=", "*") {
		switch w {
		case "insert", "update", "delete", "select", "create", "drop", "alter":
			refused(t, " "+w, len(w)+1, api.ErrSyntax)
		default:
			refused(t, w, 0, api.ErrSyntax)
			refused(t, " \n"+w, 2, api.ErrSyntax)
			refused(t, w+" * from t", 0, api.ErrSyntax)
		}
	}
	refused(t, " \t", 2, api.ErrSyntax)
	refused(t, "; select * from t", 0, api.ErrSyntax)
}

// P18.1: words that are close to the grammar's, and where they fail.
func TestSyntax(t *testing.T) {
	for s, at := range map[string]int{
		"insert t values (5)":                                    7,
		"insert into t (5)":                                      14,
		"insert into t values ()":                                22,
		"insert into t values 5":                                 21,
		"insert into t values (5":                                23,
		"insert into t values (5,)":                              24,
		"insert into t values (,5)":                              22,
		"insert into t values (5 6)":                             24,
		"insert into t values (a)":                               22,
		"insert into t values (5) where a = 5":                   25,
		"update t set a = 5, b = 6":                              18,
		"update t a = 5":                                         9,
		"update t set a 5":                                       15,
		"update t set a = b":                                     17,
		"update t set a = 5 where":                               24,
		"update t where a = 5":                                   9,
		"delete t":                                               7,
		"delete * from t":                                        7,
		"delete from t where a":                                  21,
		"delete from t where 5 = 5":                              20,
		"delete from t where a = 5 where a = 5":                  26,
		"select a from t":                                        7,
		"select from t":                                          7,
		"select * t":                                             9,
		"select * from t where a = *":                            26,
		"select * from t, u":                                     15,
		"create t (a int)":                                       7,
		"create table t ()":                                      16,
		"create table t a int":                                   15,
		"create table t (a)":                                     17,
		"create table t (a int,)":                                22,
		"create table t (a int b int)":                           22,
		"create table t (a null)":                                18,
		"create table t (a integer)":                             18,
		"create table t (a int default 5)":                       22,
		"create unique table t (a int)":                          14,
		"create unique unique index i on t (a)":                  14,
		"create index i t (a)":                                   15,
		"create index i on t ()":                                 21,
		"create index i on t (a, b)":                             22,
		"create index i on t a":                                  20,
		"drop table t":                                           5,
		"drop unique index i on t":                               5,
		"drop index i":                                           12,
		"drop index i on t (a)":                                  18,
		"alter t add column a int":                               6,
		"alter table t column a int":                             14,
		"alter table t add a int":                                18,
		"alter table t add column a":                             26,
		"alter table t add column a int default":                 38,
		"alter table t add column a int default x":               39,
		"alter table t add column a int default null null":       44,
		"alter table t add column a int, b int":                  30,
		"alter table t add index i on t (a)":                     18,
		"alter table t drop a":                                   19,
		"alter table t drop index i":                             19,
		"alter table t drop column a int":                        28,
		"alter table t add foreign f (a) references u":           26,
		"alter table t add foreign key f a references u":         32,
		"alter table t add foreign key f (a) u":                  36,
		"alter table t add foreign key f (a) references u (a)":   49,
		"alter table t add foreign key f (a, b) references u":    34,
		"alter table t drop foreign f":                           27,
		"alter table t drop foreign key f (a)":                   33,
		"alter table t add unique index i":                       18,
		"select * from t; insert t values (5)":                   24,
		"select * from t;; select * from t":                      16,
		"select * from t;":                                       16,
		"select * from t; t":                                     17,
		"select * from t;select * from t;select * from t where;": 53,
	} {
		refused(t, s, at, api.ErrSyntax)
	}
}

// P18.1: layer 17's errors, at their places, ahead of all faults of the grammar.
func TestWordErrors(t *testing.T) {
	for _, x := range samples() {
		s := x.text + " "
		refused(t, s+"?", len(s), api.ErrByte)
		refused(t, s+"'x", len(s), api.ErrQuote)
		refused(t, s+"9223372036854775808", len(s), api.ErrNumber)
		refused(t, s+"abcdefghijklmnopq", len(s), api.ErrLong)
		refused(t, s+"'"+long("x", 65)+"'", len(s), api.ErrLong)
		refused(t, s+long(" ", api.MaxQuery+1-len(s)), 0, api.ErrBig)
		parsed(t, s+long(" ", api.MaxQuery-len(s)), x.stmt)
	}
	refused(t, "drop drop ; ;; ?", 15, api.ErrByte)
	refused(t, "select 'x", 7, api.ErrQuote)
	refused(t, long("delete from t;", 9)+"-", 9*14, api.ErrByte)
	refused(t, "SELECT * from t", 0, api.ErrByte)
}

// P18.1: MaxStmts statements may be; the first word of one more is too many, if a statement begins with it.
func TestMany(t *testing.T) {
	var list []api.Stmt
	for range api.MaxStmts {
		list = append(list, api.Stmt{Kind: api.Select, Table: "t"})
	}
	eight := strings.TrimSuffix(long("select * from t; ", 8), "; ")
	parsed(t, eight, list...)
	at := len(eight) + 1
	for _, w := range []string{"insert", "update", "delete", "select", "insert into t values (5)", "select * from t; drop", "delete delete", "select * from t;" + eight} {
		refused(t, eight+";"+w, at, api.ErrMany)
	}
	for _, w := range []string{"", "create", "drop index i on t", "alter", "t", "null", "5", "'x'", ";", "*"} {
		refused(t, eight+";"+w, at, api.ErrSyntax)
	}
	refused(t, eight+" x;select * from t", at, api.ErrSyntax)
	refused(t, eight+" 5", at, api.ErrSyntax)
	refused(t, "select t;"+eight+";select", 7, api.ErrSyntax)
	refused(t, "select * from t;"+eight, len(eight)+1, api.ErrMany)
}

// P18.1: rows and tables may be as wide as a text is long.
func TestWide(t *testing.T) {
	n := (api.MaxQuery - len("insert into t values (0)")) / 2
	want := api.Stmt{Kind: api.Insert, Table: "t", Values: []api.Value{number(0)}}
	for range n {
		want.Values = append(want.Values, number(1))
	}
	parsed(t, "insert into t values (0"+long(",1", n)+")", want)
	n = (api.MaxQuery - len("create table t (a int)")) / len(",b text")
	d := api.Ddl{Kind: api.AddTable, Table: "t", Columns: []api.Column{{Name: "a", Kind: api.Int}}}
	for range n {
		d.Columns = append(d.Columns, api.Column{Name: "b", Kind: api.Text})
	}
	parsed(t, "create table t (a int"+long(",b text", n)+")", change(d))
}
