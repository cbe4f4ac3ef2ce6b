package wire_test

import (
	"math"
	"math/rand"
	"reflect"
	"strings"
	"testing"
	"unsafe"

	"lintel/api"
	"lintel/wire"
)

// sample is a struct whose fields are all unlike, and its bytes, written by hand.
type sample struct {
	face  face
	x     any
	bytes string
}

func samples() []sample {
	list := faces()
	return []sample{
		{list[0], sampleMsg(), sampleMsgBytes},
		{list[1], sampleDelta(), sampleDeltaBytes},
		{list[2], sampleCommand(), sampleCommandBytes},
		{list[3], sampleRange(), sampleRangeBytes},
		{list[4], samplePlan(), samplePlanBytes},
	}
}

func sampleMsg() api.Msg {
	return api.Msg{Kind: api.Give, From: 1, To: 2, Term: 3, Index: 4, Prev: -6, Commit: 7, Good: true,
		List: []api.Entry{{Term: 8, At: 9, Born: 10, Text: "ab"}, {Term: 11, At: 12, Born: 13}}, Snap: "cde"}
}

const sampleMsgBytes = "\x0a\x02\x04\x06\x08\x0b\x0e" + "\x02" +
	"\x04" + "\x10\x12\x14\x04ab" + "\x16\x18\x1a\x00" +
	"\x06cde"

func sampleDelta() api.Delta {
	return api.Delta{Term: 1, Vote: -1, Whole: true, Base: 2, BaseTerm: 3, Snap: "ab", From: 4,
		List: []api.Entry{{Term: 5, At: 6, Born: 7, Text: "c"}}}
}

const sampleDeltaBytes = "\x02\x01" + "\x02" + "\x04\x06" + "\x04ab" + "\x08" +
	"\x02" + "\x0a\x0c\x0e\x02c"

func sampleDdl() api.Ddl {
	return api.Ddl{Kind: api.AddColumn, Table: "t", Name: "na", Column: "col", Parent: "pare", Unique: true, Type: api.Text,
		Default: api.Value{Kind: api.Int, N: math.MinInt64, S: "v"},
		Columns: []api.Column{{Id: 5, Name: "d", Kind: 6, State: 7, Default: api.Value{Kind: 8, N: 9, S: "e"}}}}
}

const sampleDdlBytes = "\x08" + "\x02t" + "\x04na" + "\x06col" + "\x08pare" + "\x02" + "\x04" +
	"\x02\xff\xff\xff\xff\xff\xff\xff\xff\xff\x01\x02v" +
	"\x02" + "\x0a\x02d\x0c\x0e" + "\x10\x12\x02e"

func sampleCommand() api.Command {
	return api.Command{Kind: api.Prepare, By: api.Tid{Node: 2, Boot: 3, Seq: 4}, Txn: api.Tid{Node: 5, Boot: 6, Seq: 7}, Home: 8,
		Reads: []api.Read{
			{Span: api.Span{From: "a", To: "bc"}, Seen: []api.Stamp{{Key: "d", Ts: 9}, {Key: "", Ts: 10}}},
			{Span: api.Span{From: "", To: "e"}},
		},
		Writes: []api.Write{{Key: "f", Value: "gh", Dead: true}, {Key: "i"}},
		Min:    11, Until: 12, Ts: 13, Version: 14, Call: 15, Ddl: sampleDdl(), Job: 16, Phase: 17, Mark: "jk", Why: api.ErrTwice}
}

const sampleCommandBytes = "\x02" + "\x04\x06\x08" + "\x0a\x0c\x0e" + "\x10" +
	"\x04" + "\x02a\x04bc" + "\x04" + "\x02d\x12" + "\x00\x14" +
	/*   */ "\x00\x02e" + "\x00" +
	"\x04" + "\x02f\x04gh\x02" + "\x02i\x00\x00" +
	"\x16\x18\x1a\x1c\x1e" + sampleDdlBytes + "\x20\x22" + "\x04jk" + "\xa4\x03"

func sampleRange() api.Range {
	return api.Range{
		Rows: []api.Row{
			{Key: "a", List: []api.Version{{Ts: 1, Value: "bc", Dead: true}, {Ts: 2, Value: "d"}}},
			{Key: "ef"},
		},
		Locks: []api.Lock{{Txn: api.Tid{Node: 3, Boot: 4, Seq: 5}, Home: 6, Until: 7,
			Spans: []api.Span{{From: "g", To: "hi"}}, Writes: []api.Write{{Key: "j", Value: "", Dead: true}}}},
		Records: []api.Record{{Txn: api.Tid{Node: 8, Boot: 9, Seq: 10}, Ts: 11}},
		Over:    []api.Tid{{Node: 12, Boot: 13, Seq: 14}, {Node: 15, Boot: 16, Seq: 17}},
		High:    64,
	}
}

const sampleRangeBytes = "\x04" + "\x02a" + "\x04" + "\x02\x04bc\x02" + "\x04\x02d\x00" +
	/*   */ "\x04ef" + "\x00" +
	"\x02" + "\x06\x08\x0a" + "\x0c\x0e" + "\x02" + "\x02g\x04hi" + "\x02" + "\x02j\x00\x02" +
	"\x02" + "\x10\x12\x14\x16" +
	"\x04" + "\x18\x1a\x1c" + "\x1e\x20\x22" +
	"\x80\x01"

func samplePlan() api.Plan {
	return api.Plan{
		Schema: api.Schema{Version: 1, Last: 2, Tables: []api.Table{
			{Id: 3, Name: "t",
				Columns: []api.Column{{Id: 4, Name: "a", Kind: 5, State: 6, Default: api.Value{Kind: 7, N: math.MaxInt64, S: "b"}}},
				Indexes: []api.Index{{Id: 8, Name: "c", Column: 9, Unique: true, State: 10}},
				Keys:    []api.Foreign{{Id: 11, Name: "d", Column: 12, Parent: 13, State: 14}}},
			{Id: 15, Name: "uv"},
		}},
		Leases: []api.Lease{{Node: 16, Version: 17, Until: 18}},
		Jobs: []api.Job{
			{Id: 19, Call: 20, By: api.Tid{Node: 21, Boot: 22, Seq: 23}, Ddl: sampleDdl(), Phase: 24, Back: true, Mark: "ef", End: 25, Why: api.ErrLease},
			{Id: 26, Drain: true},
		},
	}
}

const samplePlanBytes = "\x02\x04" + "\x04" +
	"\x06\x02t" + "\x02" + "\x08\x02a\x0a\x0c" + "\x0e\xfe\xff\xff\xff\xff\xff\xff\xff\xff\x01\x02b" +
	/*   */ "\x02" + "\x10\x02c\x12\x02\x14" +
	/*   */ "\x02" + "\x16\x02d\x18\x1a\x1c" +
	"\x1e\x04uv" + "\x00" + "\x00" + "\x00" +
	"\x02" + "\x20\x22\x24" +
	"\x04" +
	"\x26\x28" + "\x2a\x2c\x2e" + sampleDdlBytes + "\x30" + "\x02\x00" + "\x04ef" + "\x32" + "\xe0\x03" +
	"\x34\x00" + "\x00\x00\x00" + "\x00\x00\x00\x00\x00\x00\x00\x00\x00\x00\x00" + "\x00" + "\x00\x02" + "\x00" + "\x00" + "\x00"

// P10.1: a Vote from 1 to 0 of the term 3, Good.
func TestExample(t *testing.T) {
	m := api.Msg{Kind: api.Vote, From: 1, To: 0, Term: 3, Good: true}
	const want = "\x04\x02\x00\x06\x00\x00\x00\x02\x00\x00"
	if s := wire.PutMsg(m); s != want {
		t.Fatalf("PutMsg: % x, not % x", s, want)
	}
	if got, err := wire.GetMsg(want); err != api.OK || !reflect.DeepEqual(got, m) {
		t.Errorf("GetMsg: %+v, %d, not %+v, OK", got, err, m)
	}
	for _, s := range []string{want + "\x00", want[:len(want)-1]} {
		if got, err := wire.GetMsg(s); err != api.ErrForm || !reflect.DeepEqual(got, api.Msg{}) {
			t.Errorf("GetMsg(% x): %+v, %d, not nothing, ErrForm", s, got, err)
		}
	}
}

// P10.1: each Put writes each field where it stands in package api, and each Get finds it there.
func TestSamples(t *testing.T) {
	for _, x := range samples() {
		if s := x.face.put(reflect.ValueOf(x.x)); s != x.bytes {
			t.Errorf("Put%s: % x, not % x", x.face.name, s, x.bytes)
		}
		got, err := x.face.get(x.bytes)
		if err != api.OK || !reflect.DeepEqual(got.Interface(), x.x) {
			t.Errorf("Get%s: %+v, %d, not %+v, OK", x.face.name, got, err, x.x)
		}
	}
}

// P10.1: a struct with nothing in it has a byte 0 for each number, yes or no, text and list.
func TestNothing(t *testing.T) {
	for i, n := range []int{10, 8, 30, 5, 5} {
		f, want := faces()[i], strings.Repeat("\x00", n)
		if s := f.put(f.zero); s != want {
			t.Errorf("Put%s: % x, not % x", f.name, s, want)
		}
		got, err := f.get(want)
		if err != api.OK || sketchPut(got) != want {
			t.Errorf("Get%s: %+v, %d, not nothing, OK", f.name, got, err)
		}
	}
}

// P10.1: nil and an empty list have the same bytes.
func TestEmptyLists(t *testing.T) {
	a := wire.PutMsg(api.Msg{List: []api.Entry{}})
	b := wire.PutMsg(api.Msg{})
	if a != b {
		t.Errorf("PutMsg: % x of an empty list, % x of nil", a, b)
	}
	c := wire.PutRange(api.Range{Rows: []api.Row{{List: []api.Version{}}}, Locks: []api.Lock{}, Records: []api.Record{}, Over: []api.Tid{}})
	d := wire.PutRange(api.Range{Rows: []api.Row{{}}})
	if c != d {
		t.Errorf("PutRange: % x of empty lists, % x of nil", c, d)
	}
}

// numberBytes are numbers and their bytes.
func numberBytes() map[int]string {
	return map[int]string{
		0: "\x00", -1: "\x01", 1: "\x02", -2: "\x03", 2: "\x04", 63: "\x7e", -64: "\x7f",
		64: "\x80\x01", -65: "\x81\x01", 100: "\xc8\x01", 8191: "\xfe\x7f", -8192: "\xff\x7f",
		8192: "\x80\x80\x01", -8193: "\x81\x80\x01",
		1<<62 - 1:   "\xfe\xff\xff\xff\xff\xff\xff\xff\x7f",
		-1 << 62:    "\xff\xff\xff\xff\xff\xff\xff\xff\x7f",
		1 << 62:     "\x80\x80\x80\x80\x80\x80\x80\x80\x80\x01",
		-1<<62 - 1:  "\x81\x80\x80\x80\x80\x80\x80\x80\x80\x01",
		math.MaxInt: "\xfe\xff\xff\xff\xff\xff\xff\xff\xff\x01",
		math.MinInt: "\xff\xff\xff\xff\xff\xff\xff\xff\xff\x01",
	}
}

// notNumbers are bytes with which no number is written.
func notNumbers() []string {
	return []string{
		"", "\x80", "\xff", "\x80\x80", // another group should follow
		"\x80\x00", "\x81\x00", "\xff\x00", "\xff\xff\x00", "\x80\x80\x80\x00", // a group too many
		strings.Repeat("\xff", 9) + "\x00",
		strings.Repeat("\x80", 9) + "\x00",
		strings.Repeat("\xff", 9) + "\x02", // more than 64 bits
		strings.Repeat("\x80", 9) + "\x03",
		strings.Repeat("\xff", 9) + "\x7f",
		strings.Repeat("\xff", 9) + "\x81",
		strings.Repeat("\xff", 10) + "\x00",
		strings.Repeat("\xff", 10) + "\x01",
		strings.Repeat("\x80", 10) + "\x01",
		strings.Repeat("\x80", 70) + "\x01",
		strings.Repeat("\xff", 1000),
	}
}

// P10.1: a number has as few groups of seven bits as are enough, the lowest first.
func TestNumbers(t *testing.T) {
	for n, s := range numberBytes() {
		x := api.Range{High: n}
		want := "\x00\x00\x00\x00" + s
		if got := wire.PutRange(x); got != want {
			t.Errorf("PutRange of %d: % x, not % x", n, got, want)
		}
		if got, err := wire.GetRange(want); err != api.OK || got.High != n {
			t.Errorf("GetRange(% x): %d, %d, not %d, OK", want, got.High, err, n)
		}
	}
	for _, s := range notNumbers() {
		got, err := wire.GetRange("\x00\x00\x00\x00" + s)
		if err != api.ErrForm || !reflect.DeepEqual(got, api.Range{}) {
			t.Errorf("GetRange with the number % x: %+v, %d, not nothing, ErrForm", s, got, err)
		}
	}
}

// P10.1: a number of type int64 and one of type Errno are written as all others, above and below what they mean too.
func TestOtherNumbers(t *testing.T) {
	for n, s := range numberBytes() {
		c := api.Command{Ddl: api.Ddl{Default: api.Value{N: int64(n)}}, Why: api.Errno(n)}
		want := strings.Repeat("\x00", 8+1+1+5+7+1) + s + strings.Repeat("\x00", 2+3) + s
		if got := wire.PutCommand(c); got != want {
			t.Errorf("PutCommand of %d: % x, not % x", n, got, want)
		}
		if got, err := wire.GetCommand(want); err != api.OK || !reflect.DeepEqual(got, c) {
			t.Errorf("GetCommand(% x): %+v, %d, not %d twice, OK", want, got, err, n)
		}
	}
}

// P10.1: a yes or no is the number 1 or 0, and no other.
func TestYesOrNo(t *testing.T) {
	ahead, behind := strings.Repeat("\x00", 7), "\x00\x00"
	for s, want := range map[string]bool{"\x00": false, "\x02": true} {
		if got, err := wire.GetMsg(ahead + s + behind); err != api.OK || got.Good != want {
			t.Errorf("GetMsg with Good as % x: %v, %d, not %v, OK", s, got.Good, err, want)
		}
	}
	for n, s := range numberBytes() {
		if n == 0 || n == 1 {
			continue
		}
		if got, err := wire.GetMsg(ahead + s + behind); err != api.ErrForm || !reflect.DeepEqual(got, api.Msg{}) {
			t.Errorf("GetMsg with Good as % x: %+v, %d, not nothing, ErrForm", s, got, err)
		}
	}
}

// P10.1: a text has any bytes, as many as are said.
func TestTexts(t *testing.T) {
	all := make([]byte, 256)
	for i := range all {
		all[i] = byte(i)
	}
	long := strings.Repeat(string(all), 300)
	for _, s := range []string{"", "\x00", "\x80", "a\xffb", string(all[:63]), string(all[:64]), string(all[:65]), string(all), long} {
		want := strings.Repeat("\x00", 9) + sketchInt(len(s)) + s
		if got := wire.PutMsg(api.Msg{Snap: s}); got != want {
			t.Errorf("PutMsg of %d bytes: %d bytes, not the %d that it should be", len(s), len(got), len(want))
		}
		if got, err := wire.GetMsg(want); err != api.OK || got.Snap != s {
			t.Errorf("GetMsg of %d bytes: %d bytes, %d, not what was put, OK", len(s), len(got.Snap), err)
		}
	}
}

// P10.1: more or fewer bytes or items than are said, or fewer than none, are of no struct, however many are said.
func TestCounts(t *testing.T) {
	wrong := []int{-1, -2, 2, 3, 63, 64, 1 << 31, 1 << 32, 1<<32 + 1, 1 << 62, 1<<62 + 1, math.MaxInt - 1, math.MaxInt, math.MinInt, math.MinInt + 1}
	for _, n := range wrong {
		s := strings.Repeat("\x00", 9) + sketchInt(n) + "a"
		if got, err := wire.GetMsg(s); err != api.ErrForm || !reflect.DeepEqual(got, api.Msg{}) {
			t.Errorf("GetMsg with a text of %d bytes: %+v, %d, not nothing, ErrForm", n, got, err)
		}
		s = strings.Repeat("\x00", 8) + sketchInt(n) + "\x02\x02\x02\x02a" + "\x00"
		if got, err := wire.GetMsg(s); err != api.ErrForm || !reflect.DeepEqual(got, api.Msg{}) {
			t.Errorf("GetMsg with a list of %d items: %+v, %d, not nothing, ErrForm", n, got, err)
		}
	}
	got, err := wire.GetMsg(strings.Repeat("\x00", 8) + "\x02" + "\x02\x02\x02\x02a" + "\x00")
	if want := []api.Entry{{Term: 1, At: 1, Born: 1, Text: "a"}}; err != api.OK || !reflect.DeepEqual(got.List, want) {
		t.Errorf("GetMsg with a list of 1 item: %+v, %d, not %+v, OK", got.List, err, want)
	}
}

// P10.1: lists of many items, with lists in them.
func TestLongLists(t *testing.T) {
	var x api.Range
	for i := range 700 {
		x.Over = append(x.Over, api.Tid{Node: i, Boot: -i, Seq: i * i})
		x.Rows = append(x.Rows, api.Row{Key: strings.Repeat("k", i%80), List: make([]api.Version, i%70)})
	}
	want := sketchPut(reflect.ValueOf(x))
	if s := wire.PutRange(x); s != want {
		t.Fatalf("PutRange: %d bytes, not the %d that it should be", len(s), len(want))
	}
	got, err := wire.GetRange(want)
	if err != api.OK || sketchPut(reflect.ValueOf(got)) != want {
		t.Errorf("GetRange: not what was put, OK, but %d", err)
	}
}

// P10.1: of a struct's bytes no beginning is another one's, nor is anything that begins with them. Rule 2: beside ErrForm there is nothing, though all but a byte was right.
func TestCutAndLengthened(t *testing.T) {
	for _, x := range samples() {
		var list []string
		for n := range len(x.bytes) {
			list = append(list, x.bytes[:n])
		}
		for _, more := range []string{"\x00", "\x01", "\x80", "a", x.bytes} {
			list = append(list, x.bytes+more)
		}
		for _, s := range list {
			got, err := x.face.get(s)
			if err != api.ErrForm || !got.IsZero() {
				t.Errorf("Get%s(% x): %+v, %d, not nothing, ErrForm", x.face.name, s, got, err)
			}
		}
	}
}

// P10.1: wherever another byte, a number or what is none stands, Get answers the struct that has these bytes, or ErrForm.
func TestEachPlace(t *testing.T) {
	var other []string
	for b := 0; b < 256; b += 1 + b/16 { // small ones most of all: they count what is there
		other = append(other, string([]byte{byte(b)}))
	}
	for _, n := range edges() {
		other = append(other, sketchInt(n))
	}
	other = append(other, notNumbers()...)
	for _, x := range samples() {
		for at := range len(x.bytes) {
			for _, s := range other {
				checkGet(t, x.face, x.bytes[:at]+s+x.bytes[at+1:])
			}
		}
	}
}

// Rule 5: what is handed to a Put stays as it is, its spare room too.
func TestHandedInStays(t *testing.T) {
	r := rand.New(rand.NewSource(4))
	for _, f := range faces() {
		for range 50 {
			v := someStruct(r, f.zero)
			before := dump(v)
			f.put(v)
			if after := dump(v); after != before {
				t.Fatalf("Put%s: what was handed in is %s, not %s", f.name, after, before)
			}
		}
	}
}

// room is where a list's items or a text's bytes lie, from the first up to ahead of the last.
type room struct{ from, to uintptr }

// rooms tells all rooms of v.
func rooms(v reflect.Value) []room {
	var list []room
	switch v.Kind() {
	case reflect.String:
		if s := v.String(); s != "" {
			from := uintptr(unsafe.Pointer(unsafe.StringData(s)))
			list = append(list, room{from, from + uintptr(len(s))})
		}
	case reflect.Slice:
		if v.Cap() > 0 {
			list = append(list, room{v.Pointer(), v.Pointer() + uintptr(v.Cap())*v.Type().Elem().Size()})
		}
		for i := range v.Len() {
			list = append(list, rooms(v.Index(i))...)
		}
	case reflect.Struct:
		for i := range v.NumField() {
			list = append(list, rooms(v.Field(i))...)
		}
	}
	return list
}

// Rule 5: what a Get answers is new memory: it is neither in the bytes, nor in another answer, nor in itself twice.
func TestAnsweredIsNew(t *testing.T) {
	for _, x := range samples() {
		s := strings.Clone(x.bytes)
		a, _ := x.face.get(s)
		b, _ := x.face.get(s)
		all := append(rooms(reflect.ValueOf(s)), append(rooms(a), rooms(b)...)...)
		if len(all) < 7 {
			t.Fatalf("Get%s: %d lists and texts are too few to tell much", x.face.name, len(all))
		}
		for i, p := range all {
			for _, q := range all[:i] {
				// Texts of one byte may lie in a table of the language's own.
				if p.from < q.to && q.from < p.to && p.to-p.from > 1 {
					t.Fatalf("Get%s: two lists or texts share memory", x.face.name)
				}
			}
		}
	}
}

// Rule 5: who writes into an answer changes no later one.
func TestAnswersNeverMeet(t *testing.T) {
	for _, x := range samples() {
		got, _ := x.face.get(x.bytes)
		smash(got)
		again, err := x.face.get(x.bytes)
		if err != api.OK || !reflect.DeepEqual(again.Interface(), x.x) {
			t.Errorf("Get%s: %+v, %d, not %+v, OK", x.face.name, again, err, x.x)
		}
	}
}

// smash makes all items of v's lists zero.
func smash(v reflect.Value) {
	switch v.Kind() {
	case reflect.Slice:
		for i := range v.Len() {
			smash(v.Index(i))
			v.Index(i).SetZero()
		}
	case reflect.Struct:
		for i := range v.NumField() {
			smash(v.Field(i))
		}
	}
}

// Rule 7: what is answered hangs on the argument alone, not on what was asked ahead of it.
func TestNothingIsKept(t *testing.T) {
	r := rand.New(rand.NewSource(5))
	for range 50 {
		for _, x := range samples() {
			other := x.face.put(someStruct(r, x.face.zero))
			x.face.get(meddle(r, other))
			if s := x.face.put(reflect.ValueOf(x.x)); s != x.bytes {
				t.Fatalf("Put%s: % x, not % x", x.face.name, s, x.bytes)
			}
			if got, err := x.face.get(x.bytes); err != api.OK || !reflect.DeepEqual(got.Interface(), x.x) {
				t.Fatalf("Get%s: %+v, %d, not %+v, OK", x.face.name, got, err, x.x)
			}
		}
	}
}
