package value_test

import (
	"math"
	"regexp"
	"strconv"
	"strings"
	"testing"

	"lintel/api"
	"lintel/value"
)

func number(n int64) api.Value { return api.Value{Kind: api.Int, N: n} }

func text(s string) api.Value { return api.Value{Kind: api.Text, S: s} }

// allBytes is cut so that every byte stands in one of its texts, those that are no UTF-8 too.
func allBytes() []api.Value {
	var out []api.Value
	for from := 0; from < 256; from += api.MaxText {
		b := make([]byte, api.MaxText)
		for i := range b {
			b[i] = byte(from + i)
		}
		out = append(out, text(string(b)))
	}
	return out
}

// good are values that may be, each with how it is written.
func good() map[api.Value]string {
	out := map[api.Value]string{
		{}:                        "null",
		number(0):                 "0",
		number(7):                 "7",
		number(-5):                "-5",
		number(10):                "10",
		number(-100):              "-100",
		number(math.MaxInt64):     "9223372036854775807",
		number(math.MinInt64):     "-9223372036854775808",
		text(""):                  "''",
		text("a"):                 "'a'",
		text("it's"):              "'it''s'",
		text("'"):                 "''''",
		text("''"):                "''''''",
		text("'a'"):               "'''a'''",
		text("null"):              "'null'",
		text("5"):                 "'5'",
		text(" "):                 "' '",
		text("\x00\n\xff\\\""):    "'\x00\n\xff\\\"'",
		text("\xc3\xa9"):          "'\xc3\xa9'",
		text(long("x", 64)):       "'" + long("x", 64) + "'",
		text(long("'", 64)):       long("'", 130),
		text(long("\xc3", 64)):    "'" + long("\xc3", 64) + "'",
		text(long("x", 63) + "'"): "'" + long("x", 63) + "'''",
	}
	for _, v := range allBytes() {
		out[v] = "'" + strings.ReplaceAll(v.S, "'", "''") + "'"
	}
	return out
}

func long(s string, n int) string { return strings.Repeat(s, n) }

// bad are values that may not be.
func bad() []api.Value {
	return []api.Value{
		{Kind: api.Null, N: 1},
		{Kind: api.Null, N: -1},
		{Kind: api.Null, S: "x"},
		{Kind: api.Null, S: "\x00"},
		{Kind: api.Null, N: 1, S: "x"},
		{Kind: api.Int, S: "x"},
		{Kind: api.Int, N: 5, S: "5"},
		{Kind: api.Text, N: 1},
		{Kind: api.Text, N: -1, S: "x"},
		{Kind: api.Text, S: long("x", 65)},
		{Kind: api.Text, S: long("'", 65)},
		{Kind: api.Text, S: long("x", 1<<20)},
		{Kind: 3},
		{Kind: -1},
		{Kind: 3, N: 1, S: "x"},
		{Kind: math.MaxInt},
		{Kind: math.MinInt},
	}
}

// P1.1
func TestCheck(t *testing.T) {
	for v := range good() {
		if e := value.Check(v); e != api.OK {
			t.Errorf("Check(%v): %d", v, e)
		}
	}
	for _, v := range bad() {
		if e := value.Check(v); e != api.ErrValue {
			t.Errorf("Check(%.100v): %d", v, e)
		}
	}
}

// P1.1: one byte more than MaxText is one too many, each byte counted, not each rune.
func TestCheckLength(t *testing.T) {
	for n := range 2 * api.MaxText {
		for _, unit := range []string{"x", "\xc3\xa9"} {
			v := text(long(unit, n))
			want := api.OK
			if len(v.S) > 64 {
				want = api.ErrValue
			}
			if e := value.Check(v); e != want {
				t.Errorf("%d bytes: %d", len(v.S), e)
			}
		}
	}
}

// P1.2: each of these is less than all that follow it, those that may not be too.
func TestCompare(t *testing.T) {
	rising := []api.Value{
		{Kind: math.MinInt, N: 9, S: "z"},
		{Kind: -1, N: 9, S: "z"},
		{Kind: api.Null, N: -1, S: "z"},
		{},
		{Kind: api.Null, S: "a"},
		{Kind: api.Null, N: 1},
		number(math.MinInt64),
		number(-10),
		number(-9),
		number(-1),
		number(0),
		{Kind: api.Int, N: 0, S: "a"},
		{Kind: api.Int, N: 0, S: "b"},
		number(1),
		number(9),
		number(10),
		number(math.MaxInt64),
		{Kind: api.Text, N: math.MinInt64, S: "z"},
		text(""),
		text("\x00"),
		text("\x00\x00"),
		text("\x00a"),
		text("10"),
		text("9"),
		text("A"),
		text("a"),
		text("a\x00"),
		text("aa"),
		text("ab"),
		text("b"),
		text("\x7f"),
		text("\x80"),
		text("\xc3\xa9"),
		text("\xff"),
		text("\xff" + long("x", 100)),
		{Kind: api.Text, N: 1, S: ""},
		{Kind: 3},
		{Kind: math.MaxInt},
	}
	for i, a := range rising {
		for j, b := range rising {
			want := 0
			if i < j {
				want = -1
			} else if i > j {
				want = 1
			}
			if got := value.Compare(a, b); got != want {
				t.Errorf("Compare(%v, %v): %d", a, b, got)
			}
		}
	}
}

// P1.2: the same bytes at another place in memory are the same text.
func TestCompareCopies(t *testing.T) {
	if got := value.Compare(text("it's"), text(strings.Clone("it's"))); got != 0 {
		t.Error(got)
	}
}

// P1.3
func TestPrint(t *testing.T) {
	for v, want := range good() {
		if s, e := value.Print(v); s != want || e != api.OK {
			t.Errorf("Print(%v): %q, %d", v, s, e)
		}
	}
	for _, v := range bad() {
		if s, e := value.Print(v); s != "" || e != api.ErrValue {
			t.Errorf("Print(%.100v): %q, %d", v, s, e)
		}
	}
}

// P1.3
func TestPrintNumbers(t *testing.T) {
	for n := int64(-2000); n <= 2000; n++ {
		if s, e := value.Print(number(n)); s != strconv.FormatInt(n, 10) || e != api.OK {
			t.Errorf("Print(%d): %q, %d", n, s, e)
		}
	}
}

// P1.4
func TestRead(t *testing.T) {
	for want, s := range good() {
		if v, e := value.Read(s); v != want || e != api.OK {
			t.Errorf("Read(%q): %v, %d", s, v, e)
		}
	}
}

// P1.4: what no value is written as.
func TestReadNone(t *testing.T) {
	none := []string{
		"", " ", "\x00", "-", "+", "--5", "-+5", "+5", "+0",
		"05", "00", "-0", "-05", "-00", " 5", "5 ", "5\n", "5\x00", "- 5",
		"0x5", "0b1", "0o7", "1_000", "5.0", "5e0", "1e3", "NaN", "Inf", "٥",
		"9223372036854775808", "-9223372036854775809", "18446744073709551616",
		"99999999999999999999999999", "-" + long("9", 40), long("0", 40), long("1", 129),
		"NULL", "Null", "nul", "nulll", "null ", " null", "null\x00", "nil", "-null", "nullnull",
		"'", "'a", "a'", "a", "'''", "'''''", "'a''", "''a'", "'a'b'", "'a'b", "'it's'",
		"'a' ", " 'a'", "'a'\x00", "-'a'", "\"a\"", "`a`", "'a''b", "''''a", "'a'''b'",
		"'" + long("x", 65) + "'", long("'", 132), long("'", 131), long("'", 129),
		"'" + long("x", 64), "'" + long("x", 128) + "'", "'" + long("x", 1<<20) + "'",
		long("'", 1<<20), long("9", 1<<20), long("-", 1<<20),
	}
	for _, s := range none {
		if v, e := value.Read(s); v != (api.Value{}) || e != api.ErrValue {
			t.Errorf("Read(%.80q): %v, %d", s, v, e)
		}
	}
}

// P1.4: all short strings over the bytes that matter are read just if the form of a value fits, and are printed as they were.
func TestReadShort(t *testing.T) {
	form := regexp.MustCompile(`^(null|0|-?[1-9][0-9]*|'([^']|'')*')$`)
	var all func(s string, left int)
	all = func(s string, left int) {
		readOne(t, s, form.MatchString(s))
		if left == 0 {
			return
		}
		for _, c := range "'-+019nul x" {
			all(s+string(c), left-1)
		}
	}
	all("", 5)
}

func readOne(t *testing.T, s string, is bool) {
	v, e := value.Read(s)
	if !is {
		if v != (api.Value{}) || e != api.ErrValue {
			t.Errorf("Read(%q): %v, %d", s, v, e)
		}
		return
	}
	if e != api.OK {
		t.Errorf("Read(%q): %d", s, e)
		return
	}
	if p, e := value.Print(v); p != s || e != api.OK {
		t.Errorf("Print(Read(%q)): %q, %d", s, p, e)
	}
}

// P1.4: beyond MaxText bytes there is no text, however many quotes stand in it.
func TestReadLength(t *testing.T) {
	for quotes := range api.MaxText + 1 {
		for n := quotes; n <= api.MaxText+2; n++ {
			body := long("'", quotes) + long("x", n-quotes)
			s := "'" + strings.ReplaceAll(body, "'", "''") + "'"
			want, wrong := text(body), api.OK
			if n > 64 {
				want, wrong = api.Value{}, api.ErrValue
			}
			if v, e := value.Read(s); v != want || e != wrong {
				t.Errorf("Read of %d bytes, %d of them quotes: %v, %d", n, quotes, v, e)
			}
		}
	}
}

// Each of the whole's examples that is this layer's.
func TestExampleOfTheWhole(t *testing.T) {
	if got := value.Compare(api.Value{}, number(5)); got >= 0 {
		t.Error(got)
	}
	if got := value.Compare(number(math.MaxInt64), text("")); got >= 0 {
		t.Error(got)
	}
}
