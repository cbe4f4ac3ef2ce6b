package parse_test

import (
	"math/rand"
	"slices"
	"strconv"
	"strings"
	"testing"
	"unsafe"

	"lintel/api"
	"lintel/lex"
	"lintel/parse"
)

// grammar is the chapter's, as it stands there.
const grammar = `
text      = statement { ";" statement } | change
statement = "insert" "into" NAME "values" "(" VALUE { "," VALUE } ")"
          | "update" NAME "set" NAME "=" VALUE [ where ]
          | "delete" "from" NAME [ where ]
          | "select" "*" "from" NAME [ where ]
where     = "where" NAME "=" VALUE
change    = "create" "table" NAME "(" NAME kind { "," NAME kind } ")"
          | "create" [ "unique" ] "index" NAME "on" NAME "(" NAME ")"
          | "drop" "index" NAME "on" NAME
          | "alter" "table" NAME "add" "column" NAME kind [ "default" VALUE ]
          | "alter" "table" NAME "drop" "column" NAME
          | "alter" "table" NAME "add" "foreign" "key" NAME "(" NAME ")" "references" NAME
          | "alter" "table" NAME "drop" "foreign" "key" NAME
kind      = "int" | "text"
`

// rules answers for each name on the left of the grammar what stands on its right.
func rules() map[string][]string {
	out := map[string][]string{}
	left := ""
	for line := range strings.Lines(grammar) {
		list := strings.Fields(line)
		if len(list) > 1 && list[1] == "=" {
			left, list = list[0], list[2:]
		}
		out[left] = append(out[left], list...)
	}
	return out
}

// reservedIn answers the names in quotes in the grammar, and null.
func reservedIn() []string {
	out := []string{"null"}
	for _, w := range strings.Fields(grammar) {
		if w[0] == '"' && w[1] >= 'a' && w[1] <= 'z' {
			out = append(out, strings.Trim(w, `"`))
		}
	}
	return out
}

// A rest is what the grammar still has to come, from the front; all rests together say what may come.
type rest []string

// options answers the rests that r is one of, with a word's form in front of each, or nothing.
func options(all map[string][]string, r rest) []rest {
	if len(r) == 0 {
		return []rest{nil}
	}
	var out []rest
	open := func(list ...rest) {
		for _, x := range list {
			out = append(out, options(all, x)...)
		}
	}
	switch first := r[0]; {
	case first == "{" || first == "[":
		n := slices.Index(r, map[string]string{"{": "}", "[": "]"}[first])
		inner, behind := r[1:n], r[n+1:]
		again := behind
		if first == "{" {
			again = r
		}
		open(slices.Concat(inner, again), behind)
	case all[first] != nil:
		for _, alt := range strings.Split(strings.Join(all[first], " "), " | ") {
			open(slices.Concat(rest(strings.Fields(alt)), r[1:]))
		}
	default:
		out = append(out, r)
	}
	return out
}

// fits tells whether a word is of a form of the grammar.
func fits(form string, w api.Word, reserved []string) bool {
	switch form {
	case "NAME":
		return w.Kind == api.WordName && !slices.Contains(reserved, w.Text)
	case "VALUE":
		return w.Kind == api.WordNumber || w.Kind == api.WordText || w.Kind == api.WordName && w.Text == "null"
	}
	return (w.Kind == api.WordName || w.Kind == api.WordSign) && `"`+w.Text+`"` == form
}

// model answers where Parse fails, and how, by walking all ways through the grammar at one time.
func model(all map[string][]string, reserved []string, s string) (int, api.Errno) {
	words, at, e := lex.Words(s)
	if e != api.OK {
		return at, e
	}
	now := options(all, rest{"text"})
	many := 0
	for i, w := range words {
		if w.Kind == api.WordEnd {
			if slices.ContainsFunc(now, func(r rest) bool { return len(r) == 0 }) {
				return 0, api.OK
			}
			return w.At, api.ErrSyntax
		}
		var next []rest
		for _, r := range now {
			if len(r) > 0 && fits(r[0], w, reserved) {
				next = append(next, options(all, r[1:])...)
			}
		}
		if next == nil {
			return w.At, api.ErrSyntax
		}
		if i == 0 || words[i-1].Kind == api.WordSign && words[i-1].Text == ";" {
			if many++; many == 9 {
				return w.At, api.ErrMany
			}
		}
		now = next
	}
	return 0, api.ErrArg
}

// written answers the words of a text as Print writes them.
func written(words []api.Word) string {
	out := ""
	for i := 0; words[i].Kind != api.WordEnd; i++ {
		w := words[i]
		if w.Kind == api.WordName && w.Text == "default" && words[i+1].Text == "null" && words[i+1].Kind == api.WordName {
			i++
			continue
		}
		s := w.Text
		switch w.Kind {
		case api.WordNumber:
			s = strconv.FormatInt(w.N, 10)
		case api.WordText:
			s = "'" + strings.ReplaceAll(w.Text, "'", "''") + "'"
		}
		if out == "" || strings.HasSuffix(out, "(") && words[i-1].Kind == api.WordSign || w.Kind == api.WordSign && strings.Contains("),;", w.Text) {
			out += s
			continue
		}
		out += " " + s
	}
	return out
}

// A trial holds what the trials have in common.
type trial struct {
	all      map[string][]string
	reserved []string
	seen     map[api.Errno]int
}

func newTrial() *trial {
	return &trial{rules(), reservedIn(), map[api.Errno]int{}}
}

// look parses s, and prints what comes of it.
func (x *trial) look(t *testing.T, s string) {
	t.Helper()
	list, at, e := parse.Parse(s)
	wantAt, want := model(x.all, x.reserved, s)
	if at != wantAt || e != want || e != api.OK && list != nil {
		t.Fatalf("Parse(%q): %+v, %d, %d, not %d, %d", s, list, at, e, wantAt, want)
	}
	x.seen[e]++
	if e != api.OK {
		return
	}
	words, _, _ := lex.Words(s)
	text := written(words)
	got, e := parse.Print(list)
	if len(text) > api.MaxQuery {
		if got != "" || e != api.ErrArg {
			t.Fatalf("Print of Parse(%q): %q, %d, not ErrArg", s, got, e)
		}
		x.seen[api.ErrArg]++
		return
	}
	if got != text || e != api.OK {
		t.Fatalf("Print of Parse(%q): %q, %d, not %q", s, got, e, text)
	}
	if again, at, e := parse.Parse(got); !same(again, list) || at != 0 || e != api.OK {
		t.Fatalf("Parse(%q): %+v, %d, %d, not %+v", got, again, at, e, list)
	}
}

// A source makes texts of the grammar by chance.
type source struct {
	r   *rand.Rand
	all map[string][]string
}

func (x *source) name() string {
	list := []string{"a", "b", "t", "u_1", "abcdefghijklmnop", "name", "ints", "value"}
	return list[x.r.Intn(len(list))]
}

func (x *source) value() string {
	list := []string{"null", "0", "5", "-7", "007", "9223372036854775807", "-9223372036854775808", "''", "'x'", "'it''s'", "')'", "'('", "';'", "','", "'null'", "' '"}
	return list[x.r.Intn(len(list))]
}

// words answers words that r may stand for.
func (x *source) words(r rest) []string {
	var out []string
	for {
		some := options(x.all, r)
		r = some[x.r.Intn(len(some))]
		if len(r) == 0 {
			return out
		}
		switch r[0] {
		case "NAME":
			out = append(out, x.name())
		case "VALUE":
			out = append(out, x.value())
		default:
			out = append(out, strings.Trim(r[0], `"`))
		}
		r = r[1:]
	}
}

// spoil changes a word, takes one away, puts one in or lets two change places.
func (x *source) spoil(list []string) []string {
	more := append(reservedWords(), "a", "5", "'x'", "(", ")", ",", ";", ";", "=", "*")
	some := more[x.r.Intn(len(more))]
	i := x.r.Intn(len(list))
	switch x.r.Intn(4) {
	case 0:
		list[i] = some
	case 1:
		return slices.Delete(list, i, i+1)
	case 2:
		return slices.Insert(list, i, some)
	case 3:
		j := x.r.Intn(len(list))
		list[i], list[j] = list[j], list[i]
	}
	return list
}

// P18.1, P18.2: texts of the grammar by chance, whole and spoilt, against a walk through the chapter's own grammar; and what is printed of them.
func TestChance(t *testing.T) {
	x := newTrial()
	src := &source{rand.New(rand.NewSource(18)), x.all}
	for i := range 20000 {
		start := rest{"text"}
		if i%2 == 0 {
			start = rest{"statement"}
			for range src.r.Intn(10) {
				start = append(start, `";"`, "statement")
			}
		}
		list := src.words(start)
		for n := src.r.Intn(4); n > 1 && len(list) > 0; n-- {
			list = src.spoil(list)
		}
		x.look(t, strings.Join(list, []string{" ", "\n", " \t "}[src.r.Intn(3)]))
	}
	for _, e := range []api.Errno{api.OK, api.ErrSyntax, api.ErrMany} {
		if x.seen[e] < 100 {
			t.Errorf("the answer %d came %d times alone", e, x.seen[e])
		}
	}
}

// P18.1, P18.2: each two words behind each beginning of a text; and each word put into a text, or in place of another one.
func TestNextWord(t *testing.T) {
	x := newTrial()
	more := append(reservedWords(), "a", "5", "'x'", "(", ")", ",", ";", "=", "*", "")
	for _, s := range samples() {
		words := strings.Fields(strings.NewReplacer("(", "( ", ")", " )", ",", " ,").Replace(s.text))
		for i := range len(words) + 1 {
			left := strings.Join(words[:i], " ")
			for _, w := range more {
				for _, v := range more {
					x.look(t, left+" "+w+" "+v)
				}
				x.look(t, left+" "+w+" "+strings.Join(words[i:], " "))
				x.look(t, left+" "+w+" "+strings.Join(words[min(i+1, len(words)):], " "))
			}
		}
	}
}

// P18.2: what is written without blanks is longer as it is printed, and may be too long.
func TestChanceLong(t *testing.T) {
	x := newTrial()
	r := rand.New(rand.NewSource(180))
	for range 400 {
		n := 250 + r.Intn(250)
		x.look(t, "insert into t values(1"+long(",1", n)+")")
		x.look(t, "create table t(a int"+long(",b int", 100+r.Intn(50))+")")
	}
	if x.seen[api.ErrArg] < 100 || x.seen[api.OK]-x.seen[api.ErrArg] < 100 {
		t.Error(x.seen)
	}
}

// P18.1: bytes by chance.
func TestChanceBytes(t *testing.T) {
	x := newTrial()
	r := rand.New(rand.NewSource(181))
	for range 20000 {
		b := []byte("select * from t where a = 'x';delete from t")
		for range 1 + r.Intn(3) {
			b[r.Intn(len(b))] = byte(r.Intn(256))
		}
		x.look(t, string(b))
	}
}

// P18.2: what is handed in stays as it is, its spare room too.
func TestPrintLeaves(t *testing.T) {
	list := make([]api.Stmt, 1, 3)
	list[0] = api.Stmt{Kind: api.Insert, Table: "t", Values: make([]api.Value, 2, 5)}
	room := list[:3]
	room[2].Table = "spare"
	values := list[0].Values[:5]
	values[4].S = "spare"
	if s, e := parse.Print(list); s != "insert into t values (null, null)" || e != api.OK {
		t.Fatal(s, e)
	}
	if room[2].Table != "spare" || values[4].S != "spare" || room[1].Kind != 0 || len(list[0].Values) != 2 {
		t.Fatal(room, values)
	}
}

// Rule 5: what is answered is new memory, shared neither with the text nor with another answer.
func TestNewMemory(t *testing.T) {
	b := []byte("update tab set col = 'some' where other = 'more'; insert into tab values ('some', 5); insert into tab values ('some', 5)")
	s := unsafe.String(&b[0], len(b))
	list, _, e := parse.Parse(s)
	if e != api.OK || len(list) != 3 {
		t.Fatal(list, e)
	}
	for i := range b {
		b[i] = '?'
	}
	u := list[0]
	if u.Table != "tab" || u.Set != "col" || u.To != text("some") || u.Where != "other" || u.Is != text("more") {
		t.Fatal(u)
	}
	list[1].Values[0] = number(1)
	_ = append(list[1].Values, number(2))
	if list[2].Values[0] != text("some") {
		t.Fatal(list)
	}
	again, _, _ := parse.Parse("select * from t")
	again[0].Table = "changed"
	if third, _, _ := parse.Parse("select * from t"); third[0].Table != "t" {
		t.Fatal(third)
	}
}
