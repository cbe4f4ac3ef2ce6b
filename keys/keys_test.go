package keys_test

import (
	"bytes"
	"encoding/binary"
	"math"
	"slices"
	"strings"
	"testing"

	"lintel/api"
	"lintel/keys"
	"lintel/value"
)

func number(n int64) api.Value { return api.Value{Kind: api.Int, N: n} }

func text(s string) api.Value { return api.Value{Kind: api.Text, S: s} }

func long(s string, n int) string { return strings.Repeat(s, n) }

func list(v ...api.Value) []api.Value { return v }

func nulls(n int) []api.Value { return make([]api.Value, n) }

// sample is a list with its key.
type sample struct {
	list []api.Value
	key  string
}

func samples() []sample {
	n := number
	return []sample{
		{nil, ""},
		{list(n(1), text("a")), "\x02\x80\x00\x00\x00\x00\x00\x00\x01\x03a\x00\x01"},
		{nulls(1), "\x01"},
		{nulls(2), "\x01\x01"},
		{nulls(8), long("\x01", 8)},
		{list(n(0)), "\x02\x80\x00\x00\x00\x00\x00\x00\x00"},
		{list(n(-1)), "\x02\x7f\xff\xff\xff\xff\xff\xff\xff"},
		{list(n(math.MinInt64)), "\x02\x00\x00\x00\x00\x00\x00\x00\x00"},
		{list(n(math.MaxInt64)), "\x02\xff\xff\xff\xff\xff\xff\xff\xff"},
		{list(n(256)), "\x02\x80\x00\x00\x00\x00\x00\x01\x00"},
		{list(n(0x0102030405060708)), "\x02\x81\x02\x03\x04\x05\x06\x07\x08"},
		{list(text("")), "\x03\x00\x01"},
		{list(text(""), text("")), "\x03\x00\x01\x03\x00\x01"},
		{list(text("\x00")), "\x03\x00\xff\x00\x01"},
		{list(text("\x00\x00")), "\x03\x00\xff\x00\xff\x00\x01"},
		{list(text("\x01")), "\x03\x01\x00\x01"},
		{list(text("\x00\x01")), "\x03\x00\xff\x01\x00\x01"},
		{list(text("\xff")), "\x03\xff\x00\x01"},
		{list(text("\x00\xff")), "\x03\x00\xff\xff\x00\x01"},
		{list(text("\xff\x00")), "\x03\xff\x00\xff\x00\x01"},
		{list(text("a\x00b")), "\x03a\x00\xffb\x00\x01"},
		{list(text("\xc3\xa9")), "\x03\xc3\xa9\x00\x01"},
		{list(text("\x02\x03")), "\x03\x02\x03\x00\x01"},
		{list(text(long("x", 64))), "\x03" + long("x", 64) + "\x00\x01"},
		{list(text(long("\x00", 64))), "\x03" + long("\x00\xff", 64) + "\x00\x01"},
		{list(api.Value{}, n(2), text("b"), api.Value{}), "\x01\x02\x80\x00\x00\x00\x00\x00\x00\x02\x03b\x00\x01\x01"},
		{list(text("a"), n(1)), "\x03a\x00\x01\x02\x80\x00\x00\x00\x00\x00\x00\x01"},
		{slices.Repeat(list(text(long("\x00", 64))), 8), long("\x03"+long("\x00\xff", 64)+"\x00\x01", 8)},
	}
}

// plain makes a key by the chapter's words, another way than the program.
func plain(list []api.Value) string {
	var b bytes.Buffer
	for _, v := range list {
		b.WriteByte(byte(v.Kind + 1))
		switch v.Kind {
		case api.Int:
			binary.Write(&b, binary.BigEndian, uint64(v.N)^1<<63)
		case api.Text:
			b.WriteString(strings.ReplaceAll(v.S, "\x00", "\x00\xff") + "\x00\x01")
		}
	}
	return b.String()
}

// values are all sorts of values that may be, rising.
func values() []api.Value {
	out := []api.Value{{}}
	for _, n := range []int64{
		math.MinInt64, math.MinInt64 + 1, -1 << 32, -65536, -257, -256, -255, -2, -1,
		0, 1, 2, 127, 128, 255, 256, 257, 65535, 65536, 1 << 32, math.MaxInt64 - 1, math.MaxInt64,
	} {
		out = append(out, number(n))
	}
	for _, s := range []string{
		"", "\x00", "\x00\x00", "\x00\x00\x01", "\x00\x01", "\x00\xff", "\x01", "\x01\x01", "\x02", "\x03",
		"a", "a\x00", "a\x00\x00", "a\x00\x01", "a\x00b", "a\x00\xff", "a\x01", "aa", "ab", "b",
		long("x", 63), long("x", 64), "\xc3\xa9", "\xff", "\xff\x00", "\xff\xff",
	} {
		out = append(out, text(s))
	}
	return out
}

// lists are all lists of up to two of these values, and some longer ones.
func lists() [][]api.Value {
	out := [][]api.Value{nil}
	for _, a := range values() {
		out = append(out, list(a))
		for _, b := range values() {
			out = append(out, list(a, b))
		}
	}
	for n := 3; n <= api.MaxTuple; n++ {
		for _, v := range []api.Value{{}, number(-1), number(1), text(""), text("\x00")} {
			out = append(out, slices.Repeat(list(v), n), append(nulls(n-1), v), append(list(v), nulls(n-1)...))
		}
	}
	return out
}

// P2.1
func TestEncode(t *testing.T) {
	for _, x := range samples() {
		if s, e := keys.Encode(x.list); s != x.key || e != api.OK {
			t.Errorf("Encode(%v): %q, %d", x.list, s, e)
		}
	}
	for _, l := range lists() {
		if s, e := keys.Encode(l); s != plain(l) || e != api.OK {
			t.Errorf("Encode(%v): %q, %d", l, s, e)
		}
	}
}

// P2.1: every byte of a text comes through, those that are no UTF-8 too.
func TestEncodeBytes(t *testing.T) {
	for c := range 256 {
		s := string([]byte{'x', byte(c), 'y'})
		want := "\x03" + s + "\x00\x01"
		if c == 0 {
			want = "\x03x\x00\xffy\x00\x01"
		}
		if got, e := keys.Encode(list(text(s))); got != want || e != api.OK {
			t.Errorf("Encode(%q): %q, %d", s, got, e)
		}
	}
}

// bad are values that may not be.
func bad() []api.Value {
	return []api.Value{
		{N: 1},
		{S: "x"},
		{Kind: api.Int, S: "x"},
		{Kind: api.Text, N: 1},
		{Kind: api.Text, N: -1, S: "x"},
		{Kind: api.Text, S: long("x", 65)},
		{Kind: api.Text, S: long("\x00", 65)},
		{Kind: api.Text, S: long("x", 1<<20)},
		{Kind: 3},
		{Kind: -1},
		{Kind: 255},
		{Kind: math.MaxInt},
		{Kind: math.MinInt},
	}
}

// P2.1: a value that may not be is found wherever it stands.
func TestEncodeWrongValue(t *testing.T) {
	for _, v := range bad() {
		for n := 1; n <= api.MaxTuple; n++ {
			for at := range n {
				l := nulls(n)
				l[at] = v
				if s, e := keys.Encode(l); s != "" || e != api.ErrValue {
					t.Errorf("%.80v at %d of %d: %q, %d", v, at, n, s, e)
				}
			}
		}
	}
}

// P2.1: too many values are told ahead of one that may not be.
func TestEncodeLong(t *testing.T) {
	for _, n := range []int{9, 10, 16, 256, 100000} {
		for _, v := range append(bad(), values()...) {
			l := append(nulls(n-1), v)
			if s, e := keys.Encode(l); s != "" || e != api.ErrLong {
				t.Errorf("%d values: %q, %d", n, s, e)
			}
			l[0] = v
			if s, e := keys.Encode(l); s != "" || e != api.ErrLong {
				t.Errorf("%d values: %q, %d", n, s, e)
			}
		}
	}
}

// P2.1: nil and an empty list are one; what is handed in stays, its spare room too.
func TestEncodeLeavesItsList(t *testing.T) {
	if s, e := keys.Encode([]api.Value{}); s != "" || e != api.OK {
		t.Errorf("%q, %d", s, e)
	}
	whole := list(number(1), text("a\x00"), number(3), number(4), api.Value{Kind: 9})
	before := slices.Clone(whole)
	if s, e := keys.Encode(whole[:2]); s != plain(whole[:2]) || e != api.OK {
		t.Errorf("%q, %d", s, e)
	}
	keys.Encode(whole)
	if !slices.Equal(whole, before) {
		t.Error(whole)
	}
}

func decodes(t *testing.T, s string, want []api.Value) {
	t.Helper()
	if l, e := keys.Decode(s); !slices.Equal(l, want) || e != api.OK {
		t.Errorf("Decode(%q): %v, %d; not %v", s, l, e, want)
	}
}

func refused(t *testing.T, s string) {
	t.Helper()
	if l, e := keys.Decode(s); len(l) != 0 || e != api.ErrKey {
		t.Errorf("Decode(%.80q): %.80v, %d", s, l, e)
	}
}

// P2.2
func TestDecode(t *testing.T) {
	for _, x := range samples() {
		decodes(t, x.key, x.list)
	}
	for _, l := range lists() {
		decodes(t, plain(l), l)
	}
}

// P2.2: what is no list's key.
func TestDecodeNone(t *testing.T) {
	eight := "\x80\x00\x00\x00\x00\x00\x00\x05"
	none := []string{
		"\x00", "\x04", "\x05", "a", "\xff", "\x80", "\x7f", "\x01\x00", "\x01\x04", "\x01\xff",
		"\x02", "\x02\x80", "\x02" + eight[:7], "\x02" + eight + "\x00", "\x02" + eight + eight, "\x01\x02" + eight[:7],
		eight, "\x00" + eight, "\x02" + eight + "\x02",
		"\x03", "\x03\x00", "\x03\x01", "\x03a", "\x03a\x00", "\x03\x00\xff", "\x03\x00\xff\x00", "\x03\x00\xff\x01",
		"\x03\x00\x00", "\x03\x00\x00\x01", "\x03\x00\x02", "\x03\x00\xfe", "\x03a\x00b\x00\x01", "\x03\x00\xfe\x00\x01",
		"\x03\x00\x01\x00", "\x03\x00\x01\xff", "\x03\x00\x01a", "\x03a\x00\x01\x03", "\x00\x01",
		long("\x01", 9), long("\x01", 10), long("\x01", 1<<20), long("\x02"+eight, 9), long("\x03\x00\x01", 9),
		long("\x01", 8) + "\x04", long("\x01", 8) + "\x00",
		"\x03" + long("x", 65) + "\x00\x01", "\x03" + long("\x00\xff", 65) + "\x00\x01", "\x03" + long("x", 64) + "\x00\xff\x00\x01",
		"\x03" + long("x", 64), "\x03" + long("x", 64) + "\x00", "\x03" + long("x", 65), "\x03" + long("x", 1<<20) + "\x00\x01",
		"\x01\x03" + long("x", 65) + "\x00\x01", long("\x03", 1<<20), long("\x02", 1<<20), long("\x00", 1<<20),
	}
	for _, s := range none {
		refused(t, s)
	}
}

// P2.2: each first byte of 256, alone and with much behind it.
func TestDecodeFirstByte(t *testing.T) {
	for c := range 256 {
		first := string([]byte{byte(c)})
		if c == 1 {
			decodes(t, first, nulls(1))
		} else {
			refused(t, first)
		}
		if c == 0 || c > 3 {
			refused(t, first+"\x00\x00\x00\x00\x00\x00\x00\x01")
			refused(t, first+"\x00\x01")
			refused(t, "\x01"+first)
		}
	}
}

// P2.2: what stands behind a byte 0 of a text: 255 for the byte itself, 1 for the end, nothing else.
func TestDecodeBehindZero(t *testing.T) {
	for c := range 256 {
		s := string([]byte{3, 'a', 0, byte(c)})
		switch c {
		case 1:
			decodes(t, s, list(text("a")))
			refused(t, s+"\x00\x01")
		case 255:
			refused(t, s)
			decodes(t, s+"\x00\x01", list(text("a\x00")))
		default:
			refused(t, s)
			refused(t, s+"\x00\x01")
		}
	}
}

// P2.2: texts of each length, of bytes that are written once and of bytes that are written twice.
func TestDecodeLength(t *testing.T) {
	for n := range 2 * api.MaxText {
		for _, unit := range []string{"x", "\x00", "\xff", "\x01"} {
			v := text(long(unit, n))
			s := plain(list(v, number(7)))
			if n > 64 {
				refused(t, s)
			} else {
				decodes(t, s, list(v, number(7)))
			}
		}
	}
}

// P2.2: all short strings over the bytes that matter are keys just if they are among those of all lists.
func TestDecodeShort(t *testing.T) {
	const most, alphabet = 6, "\x00\x01\x02\x03\x04a\xff"
	known := map[string][]api.Value{}
	gather(known, nil, most, alphabet)
	var all func(s string)
	all = func(s string) {
		if l, ok := known[s]; ok {
			decodes(t, s, l)
		} else {
			refused(t, s)
		}
		for i := 0; i < len(alphabet) && len(s) < most; i++ {
			all(s + alphabet[i:i+1])
		}
	}
	all("")
}

// gather finds the lists of null and of texts over the alphabet whose keys have at most so many bytes.
func gather(known map[string][]api.Value, l []api.Value, most int, alphabet string) {
	known[plain(l)] = l
	if len(plain(l)) == most {
		return
	}
	gather(known, append(slices.Clone(l), api.Value{}), most, alphabet)
	var texts func(s string)
	texts = func(s string) {
		longer := append(slices.Clone(l), text(s))
		if len(plain(longer)) > most {
			return
		}
		gather(known, longer, most, alphabet)
		for i := range len(alphabet) {
			texts(s + alphabet[i:i+1])
		}
	}
	texts("")
}

// P2.2: a key that was cut, or in which a byte was changed, put in or taken out, is the key of what is read from it, or none.
func TestDecodeDamaged(t *testing.T) {
	check := func(s string) {
		l, e := keys.Decode(s)
		switch e {
		case api.OK:
			if back, e := keys.Encode(l); back != s || e != api.OK {
				t.Errorf("Decode(%q): %v, whose key is %q, %d", s, l, back, e)
			}
		case api.ErrKey:
			refused(t, s)
		default:
			t.Errorf("Decode(%q): %d", s, e)
		}
	}
	for _, x := range samples() {
		if len(x.key) > 200 {
			continue
		}
		for at := range len(x.key) {
			check(x.key[:at])
			check(x.key[at:])
			check(x.key[:at] + x.key[at+1:])
			for c := range 256 {
				check(x.key[:at] + string([]byte{byte(c)}) + x.key[at+1:])
				check(x.key[:at] + string([]byte{byte(c)}) + x.key[at:])
			}
		}
	}
}

// P2.2: each answer is new memory.
func TestDecodeAnswersNewMemory(t *testing.T) {
	s := plain(list(number(1), text("a")))
	first, _ := keys.Decode(s)
	for i := range first {
		first[i] = api.Value{Kind: 9}
	}
	_ = append(first, number(3))
	decodes(t, s, list(number(1), text("a")))
}

// P2.3: the span's two ends, of a key and of any other bytes.
func TestUnder(t *testing.T) {
	for _, s := range []string{"", "\x01", "\x03a\x00\x01", "a", "\xff", "\xff\xff", "\x00", long("x", 1000)} {
		if got := keys.Under(s); got != (api.Span{From: s, To: s + "\xff"}) {
			t.Errorf("Under(%.80q): %.80q", s, got)
		}
	}
}

// begins tells whether a list begins with another one, or is it.
func begins(l, with []api.Value) bool {
	return len(l) >= len(with) && slices.Equal(l[:len(with)], with)
}

// P2.3: the keys in a span are just those of the lists that begin with its list.
func TestUnderHolds(t *testing.T) {
	all := encodedLists(t)
	for _, with := range all {
		p := keys.Under(with.key)
		for _, x := range all {
			if in := p.From <= x.key && x.key < p.To; in != begins(x.list, with.list) {
				t.Errorf("%v under %v: %t", x.list, with.list, in)
			}
		}
	}
}

func encoded(t *testing.T, l []api.Value) string {
	t.Helper()
	s, e := keys.Encode(l)
	if e != api.OK {
		t.Fatalf("Encode(%v): %d", l, e)
	}
	return s
}

// encodedLists are lists with the keys that the program gives them.
func encodedLists(t *testing.T) []sample {
	t.Helper()
	var out []sample
	for _, l := range lists() {
		out = append(out, sample{l, encoded(t, l)})
	}
	return out
}

// P2.4: keys stand as lists do.
func TestOrder(t *testing.T) {
	all := encodedLists(t)
	for _, a := range all {
		for _, b := range all {
			want := slices.CompareFunc(a.list, b.list, value.Compare)
			if got := strings.Compare(a.key, b.key); got != want {
				t.Errorf("%v and %v: %d, not %d", a.list, b.list, got, want)
			}
		}
	}
}

// P2.4: each of these lists is less than all that follow it.
func TestOrderByHand(t *testing.T) {
	rising := [][]api.Value{
		nil,
		nulls(1),
		nulls(2),
		list(api.Value{}, number(-5)),
		list(api.Value{}, text("")),
		list(number(-10)),
		list(number(-9)),
		list(number(-1), text("z")),
		list(number(0)),
		list(number(0), api.Value{}),
		list(number(0), text("\xff")),
		list(number(1)),
		list(number(10)),
		list(text("")),
		list(text(""), text("z")),
		list(text("\x00")),
		list(text("a")),
		list(text("a"), number(5)),
		list(text("a"), text("z")),
		list(text("a\x00")),
		list(text("a\x00"), api.Value{}),
		list(text("a\x00b")),
		list(text("ab")),
		list(text("b")),
		list(text("\xff")),
	}
	for i, a := range rising {
		for _, b := range rising[i+1:] {
			if encoded(t, a) >= encoded(t, b) {
				t.Errorf("%v and %v", a, b)
			}
		}
	}
}
