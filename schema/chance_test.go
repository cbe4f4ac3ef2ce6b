package schema_test

import (
	"math/rand"
	"reflect"
	"regexp"
	"strings"
	"testing"

	"lintel/api"
	"lintel/schema"
	"lintel/value"
)

var nameForm = regexp.MustCompile(`\A[a-z][a-z0-9_]{0,15}\z`)

// wrongs answers, by the chapter's words, what all is wrong with a schema: another way than the program, which ends at the first.
func wrongs(s api.Schema) []string {
	var list []string
	say := func(wrong bool, what string) {
		if wrong {
			list = append(list, what)
		}
	}
	ids := map[int]int{}
	part := func(seen map[string]int, id int, called string, state int) {
		seen[called]++
		ids[id]++
		say(ids[id] > 1 || id < 1 || id > s.Last, "id")
		say(seen[called] > 1 || !nameForm.MatchString(called), "name")
		say(state != api.DeleteOnly && state != api.WriteOnly && state != api.Public, "state")
	}
	keys := map[int]int{}
	tables, elements := map[string]int{}, map[string]int{}
	for _, t := range s.Tables {
		say(len(t.Columns) == 0 || len(t.Columns) > 8 || len(t.Indexes) > 8 || len(t.Keys) > 8, "how many elements")
		part(tables, t.Id, t.Name, api.Public)
		if len(t.Columns) > 0 {
			say(t.Columns[0].State != api.Public, "key")
			keys[t.Id] = t.Columns[0].Kind
		}
	}
	for _, t := range s.Tables {
		kinds := map[int]int{}
		clear(elements)
		for _, c := range t.Columns {
			part(elements, c.Id, c.Name, c.State)
			kinds[c.Id] = c.Kind
			say(c.Kind != api.Int && c.Kind != api.Text, "kind")
			say(value.Check(c.Default) != api.OK || c.Default.Kind != api.Null && c.Default.Kind != c.Kind, "default")
		}
		clear(elements)
		for _, x := range t.Indexes {
			part(elements, x.Id, x.Name, x.State)
			say(kinds[x.Column] == 0, "column")
		}
		clear(elements)
		for _, k := range t.Keys {
			part(elements, k.Id, k.Name, k.State)
			say(kinds[k.Column] == 0 || kinds[k.Column] != keys[k.Parent], "column or parent")
		}
	}
	say(s.Version < 0 || s.Version > 1<<50 || s.Last < 0 || s.Last > 1<<50, "version or last")
	say(len(s.Tables) > 6, "how many tables")
	return list
}

// fields answers all numbers and texts of a schema, wherever they are.
func fields(x reflect.Value) []reflect.Value {
	var list []reflect.Value
	switch x.Kind() {
	case reflect.Struct:
		for i := range x.NumField() {
			list = append(list, fields(x.Field(i))...)
		}
	case reflect.Slice:
		for i := range x.Len() {
			list = append(list, fields(x.Index(i))...)
		}
	case reflect.Int, reflect.Int64, reflect.String:
		list = append(list, x)
	}
	return list
}

// settings answers values for a field: those that any field of a schema has, and the edges.
func settings(x reflect.Value) []reflect.Value {
	var list []reflect.Value
	if x.Kind() == reflect.String {
		for _, s := range []string{"", "a", "b", "t", "u", "pub", "del", "A", "_", "x0", long("x", 16), long("x", 17), long("x", 65)} {
			list = append(list, reflect.ValueOf(s))
		}
		return list
	}
	for n := -1; n <= 31; n++ {
		list = append(list, reflect.ValueOf(n).Convert(x.Type()))
	}
	for _, n := range []int{1 << 50, 1<<50 + 1} {
		list = append(list, reflect.ValueOf(n).Convert(x.Type()))
	}
	return list
}

func checkByWords(t *testing.T, s api.Schema) bool {
	t.Helper()
	list := wrongs(s)
	want := api.OK
	if len(list) > 0 {
		want = api.ErrForm
	}
	if got := schema.Check(s); got != want {
		t.Fatalf("Check(%+v): %d, but what is wrong is: %s", s, got, strings.Join(list, ", "))
	}
	return want == api.OK
}

// P15.1: every number and every text of a right schema is set to all sorts of things: just what is wrong then by the words is refused.
func TestCheckOneField(t *testing.T) {
	good, bad := 0, 0
	for _, base := range []api.Schema{rich(), full()} {
		all := fields(reflect.ValueOf(&base).Elem())
		for _, field := range all {
			was := reflect.ValueOf(field.Interface())
			for _, v := range settings(field) {
				field.Set(v)
				if checkByWords(t, base) {
					good++
				} else {
					bad++
				}
			}
			field.Set(was)
		}
		checkIs(t, base, api.OK)
	}
	if good < 1000 || bad < 1000 {
		t.Fatalf("of the schemas %d are right and %d wrong: too few", good, bad)
	}
}

// P15.1: likewise of some fields at one time, and with parts of lists away or twice.
func TestCheckByChance(t *testing.T) {
	r := rand.New(rand.NewSource(15))
	good := 0
	for range 20000 {
		s := rich()
		if r.Intn(4) == 0 {
			s = full()
		}
		if r.Intn(3) == 0 {
			shuffle(r, &s)
		}
		all := fields(reflect.ValueOf(&s).Elem())
		for range r.Intn(4) {
			field := all[r.Intn(len(all))]
			list := settings(field)
			field.Set(list[r.Intn(len(list))])
		}
		if checkByWords(t, s) {
			good++
		}
	}
	if good < 1000 || good > 19000 {
		t.Fatalf("of 20000 schemas %d are right", good)
	}
}

// shuffle mixes a schema's tables, or a table's elements, and takes some away.
func shuffle(r *rand.Rand, s *api.Schema) {
	t := &s.Tables[r.Intn(2)]
	switch r.Intn(4) {
	case 0:
		r.Shuffle(len(s.Tables), func(i, j int) { s.Tables[i], s.Tables[j] = s.Tables[j], s.Tables[i] })
	case 1:
		r.Shuffle(len(t.Columns), func(i, j int) { t.Columns[i], t.Columns[j] = t.Columns[j], t.Columns[i] })
		t.Columns = t.Columns[:len(t.Columns)-r.Intn(2)]
	case 2:
		t.Indexes = t.Indexes[:r.Intn(len(t.Indexes)+1)]
	case 3:
		t.Keys = append(t.Keys, t.Keys[r.Intn(len(t.Keys))])
	}
}
