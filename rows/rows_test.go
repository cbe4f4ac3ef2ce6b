package rows_test

import (
	"encoding/binary"
	"math"
	"strings"
	"testing"

	"lintel/api"
	"lintel/keys"
	"lintel/rows"
)

func number(n int64) api.Value { return api.Value{Kind: api.Int, N: n} }

func text(s string) api.Value { return api.Value{Kind: api.Text, S: s} }

func long(s string, n int) string { return strings.Repeat(s, n) }

// values are all sorts of values that may be, no two of them the same.
func values() []api.Value {
	return []api.Value{
		{}, number(math.MinInt64), number(-1), number(0), number(1), number(5), number(256), number(math.MaxInt64),
		text(""), text("\x00"), text("\x00\x01"), text("\x01"), text("x"), text("x\x00"), text("x\x00\xff"), text("xy"), text("\xff"),
		text(long("x", api.MaxText)), text(long("\x00", api.MaxText)),
	}
}

// wrongs are values that may not be.
func wrongs() []api.Value {
	return []api.Value{
		{N: 1}, {S: "x"}, {Kind: api.Int, S: "x"}, {Kind: api.Text, N: 1, S: "x"}, {Kind: -1}, {Kind: 3}, {Kind: math.MaxInt},
		text(long("x", api.MaxText+1)), text(long("x", 1<<16)),
	}
}

// ids are those of tables, indexes and columns; the calls take any.
func ids() []int { return []int{math.MinInt, -1, 0, 1, 2, 4, 255, 256, 1 << 50, math.MaxInt} }

// bytesOf makes a list's key by the words of the chapter on keys, another way than the program.
func bytesOf(list ...api.Value) string {
	out := ""
	for _, v := range list {
		switch v.Kind {
		case api.Null:
			out += "\x01"
		case api.Int:
			out += "\x02" + string(binary.BigEndian.AppendUint64(nil, uint64(v.N)^1<<63))
		case api.Text:
			out += "\x03" + strings.ReplaceAll(v.S, "\x00", "\x00\xff") + "\x00\x01"
		}
	}
	return out
}

func id(n int) api.Value { return number(int64(n)) }

// P20.1: the keys of the document's examples: the row 5 of the table 1, and the entry of x of the index 4.
func TestKeysByHand(t *testing.T) {
	nought, one := "\x02\x80\x00\x00\x00\x00\x00\x00\x00", "\x02\x80\x00\x00\x00\x00\x00\x00\x01"
	four, five := "\x02\x80\x00\x00\x00\x00\x00\x00\x04", "\x02\x80\x00\x00\x00\x00\x00\x00\x05"
	if got, want := rows.Row(1, number(5)), nought+one+five; got != want {
		t.Errorf("Row: % x, not % x", got, want)
	}
	if got, want := rows.Entry(4, text("x"), number(5)), one+four+"\x03x\x00\x01"+five; got != want {
		t.Errorf("Entry: % x, not % x", got, want)
	}
	if got, want := rows.Table(1), (api.Span{From: nought + one, To: nought + one + "\xff"}); got != want {
		t.Errorf("Table: % x, not % x", got, want)
	}
	if got, want := rows.Index(4), (api.Span{From: one + four, To: one + four + "\xff"}); got != want {
		t.Errorf("Index: % x, not % x", got, want)
	}
	if got, want := rows.Equal(4, text("x")), (api.Span{From: one + four + "\x03x\x00\x01", To: one + four + "\x03x\x00\x01\xff"}); got != want {
		t.Errorf("Equal: % x, not % x", got, want)
	}
}

func checkKey(t *testing.T, s string, list ...api.Value) {
	t.Helper()
	if want := bytesOf(list...); s != want {
		t.Fatalf("the key of %#v: % x, not % x", list, s, want)
	}
	if got, err := rows.Key(s); got != list[len(list)-1] || err != api.OK {
		t.Fatalf("Key(% x): %#v, %d, not the last one of %#v", s, got, err, list)
	}
}

func checkUnder(t *testing.T, p api.Span, list ...api.Value) {
	t.Helper()
	if want := bytesOf(list...); p.From != want || p.To != want+"\xff" {
		t.Fatalf("the span of %#v: %q", list, p)
	}
}

// P20.1: the keys and spans of all ids and all sorts of values, and what Key answers of these keys.
func TestKeys(t *testing.T) {
	for _, n := range ids() {
		checkUnder(t, rows.Table(n), number(0), id(n))
		checkUnder(t, rows.Index(n), number(1), id(n))
		for _, v := range values() {
			checkKey(t, rows.Row(n, v), number(0), id(n), v)
			checkUnder(t, rows.Equal(n, v), number(1), id(n), v)
			for _, k := range values() {
				checkKey(t, rows.Entry(n, v, k), number(1), id(n), v, k)
			}
		}
	}
}

// P20.1: a value that may not be has no key, and no entry of a value has one then.
func TestRefusedKeys(t *testing.T) {
	for _, n := range ids() {
		for _, bad := range wrongs() {
			if s := rows.Row(n, bad); s != "" {
				t.Errorf("Row(%d, %#.99v): % x", n, bad, s)
			}
			for _, good := range append(values(), bad) {
				if s := rows.Entry(n, bad, good); s != "" {
					t.Errorf("Entry(%d, %#.99v, %#.99v): % x", n, bad, good, s)
				}
				if s := rows.Entry(n, good, bad); s != "" {
					t.Errorf("Entry(%d, %#.99v, %#.99v): % x", n, good, bad, s)
				}
			}
			// There is no key that it would be the span under.
			if got, want := rows.Equal(n, bad), keys.Under(""); got != want {
				t.Errorf("Equal(%d, %#.99v): %q, not %q", n, bad, got, want)
			}
		}
	}
}

func has(p api.Span, key string) bool { return p.From <= key && key < p.To }

// P20.1: a span has the keys of its own table, index, or value of an index, and of no other.
func TestSpansHaveTheirOwn(t *testing.T) {
	for _, a := range ids() {
		for _, b := range ids() {
			for _, v := range values() {
				row, entry := rows.Row(b, v), rows.Entry(b, v, number(5))
				if has(rows.Table(a), row) != (a == b) || has(rows.Table(a), entry) {
					t.Fatalf("Table(%d) and what is of %d with %#v", a, b, v)
				}
				if has(rows.Index(a), entry) != (a == b) || has(rows.Index(a), row) {
					t.Fatalf("Index(%d) and what is of %d with %#v", a, b, v)
				}
				for _, w := range values() {
					if has(rows.Equal(a, w), entry) != (a == b && v == w) || has(rows.Equal(a, w), row) {
						t.Fatalf("Equal(%d, %#v) and what is of %d with %#v", a, w, b, v)
					}
				}
			}
		}
	}
}

// P20.1: Key answers the last value of any list that has a key, not of rows and entries alone.
func TestKeyOfAnyList(t *testing.T) {
	for n := range api.MaxTuple {
		for _, last := range values() {
			list := append(make([]api.Value, n), last)
			if got, err := rows.Key(bytesOf(list...)); got != last || err != api.OK {
				t.Errorf("Key of %#v: %#v, %d", list, got, err)
			}
		}
	}
}

// P20.1: ErrKey of no list's key, of the empty list's, and of what is cut off or has more behind it.
func TestNoKey(t *testing.T) {
	entry := rows.Entry(4, text("x"), number(5))
	list := []string{
		"", "\x00", "\x04", "\xff", "x", "\x03", "\x03x", "\x03x\x00", "\x03x\x00\x02", "\x02\x80", bytesOf(make([]api.Value, api.MaxTuple+1)...),
		bytesOf(text(long("x", api.MaxText+1))), entry + "\x00", entry + "\xff", "\x00" + entry, rows.Table(1).To, long("x", 1<<16),
	}
	for n := 1; n < 9; n++ {
		list = append(list, entry[:len(entry)-n])
	}
	for _, s := range list {
		if got, err := rows.Key(s); got != (api.Value{}) || err != api.ErrKey {
			t.Errorf("Key(%.99q): %#v, %d, not ErrKey", s, got, err)
		}
	}
}
