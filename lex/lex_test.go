package lex_test

import (
	"math"
	"slices"
	"strconv"
	"strings"
	"testing"
	"unsafe"

	"lintel/api"
	"lintel/lex"
)

func long(s string, n int) string { return strings.Repeat(s, n) }

func name(at int, s string) api.Word { return api.Word{Kind: api.WordName, At: at, Text: s} }

func number(at int, s string, n int64) api.Word {
	return api.Word{Kind: api.WordNumber, At: at, Text: s, N: n}
}

func text(at int, s string) api.Word { return api.Word{Kind: api.WordText, At: at, Text: s} }

func sign(at int, s string) api.Word { return api.Word{Kind: api.WordSign, At: at, Text: s} }

// check looks at the words of s; the end behind them is not handed in.
func check(t *testing.T, s string, want ...api.Word) {
	t.Helper()
	want = append(slices.Clone(want), api.Word{Kind: api.WordEnd, At: len(s)})
	if got, at, e := lex.Words(s); !slices.Equal(got, want) || at != 0 || e != api.OK {
		t.Fatalf("Words(%q): %#v, %d, %d, not %#v, 0, OK", s, got, at, e, want)
	}
}

// refused looks for an error, and where it is; there are no words then.
func refused(t *testing.T, s string, at int, e api.Errno) {
	t.Helper()
	if got, gotAt, gotE := lex.Words(s); len(got) != 0 || gotAt != at || gotE != e {
		t.Fatalf("Words(%q): %#v, %d, %d, not none, %d, %d", s, got, gotAt, gotE, at, e)
	}
}

// P17.1: the chapter's examples.
func TestExamples(t *testing.T) {
	check(t, "a=-07;'it''s'", name(0, "a"), sign(1, "="), number(2, "-07", -7), sign(5, ";"), text(6, "it's"))
	refused(t, "a ?", 2, api.ErrByte)
	refused(t, "-", 0, api.ErrByte)
}

// P17.1: a text of statements, as it is used.
func TestStatements(t *testing.T) {
	check(t, "insert into t values (5, 'x')",
		name(0, "insert"), name(7, "into"), name(12, "t"), name(14, "values"), sign(21, "("), number(22, "5", 5), sign(23, ","), text(25, "x"), sign(28, ")"))
	check(t, "select * from t where a = null;\n\tdelete from u_2",
		name(0, "select"), sign(7, "*"), name(9, "from"), name(14, "t"), name(16, "where"), name(22, "a"), sign(24, "="), name(26, "null"), sign(30, ";"),
		name(33, "delete"), name(40, "from"), name(45, "u_2"))
}

// P17.1: the end stands behind the last word, at the text's length, alone if there is no other one.
func TestEnd(t *testing.T) {
	for _, s := range []string{"", " ", "\t", "\n", " \t\n \n\t", long(" ", api.MaxQuery)} {
		check(t, s)
	}
	check(t, "a", name(0, "a"))
	check(t, "a \n", name(0, "a"))
	check(t, "(\t", sign(0, "("))
}

// P17.1: blanks part words, and say nothing else; words that are not of one kind need none.
func TestBlanks(t *testing.T) {
	for _, b := range []string{" ", "\t", "\n", "  ", "\n\t "} {
		n := len(b)
		check(t, b+"a"+b+"b"+b, name(n, "a"), name(2*n+1, "b"))
		check(t, "1"+b+"2", number(0, "1", 1), number(n+1, "2", 2))
		check(t, "'a'"+b+"'b'", text(0, "a"), text(n+3, "b"))
		check(t, "'"+b+"'", text(0, b))
		check(t, "="+b+"=", sign(0, "="), sign(n+1, "="))
		refused(t, "-"+b+"5", 0, api.ErrByte)
	}
	check(t, "ab", name(0, "ab"))
	check(t, "12", number(0, "12", 12))
	check(t, "1a", number(0, "1", 1), name(1, "a"))
	check(t, "a'b'c", name(0, "a"), text(1, "b"), name(4, "c"))
	check(t, "1'2'3", number(0, "1", 1), text(1, "2"), number(4, "3", 3))
	check(t, "a-1", name(0, "a"), number(1, "-1", -1))
	check(t, "'a'-1", text(0, "a"), number(3, "-1", -1))
}

// P17.1: each byte that there is, alone: which kind of word it begins, or none.
func TestFirstByte(t *testing.T) {
	for i := range 256 {
		s := string([]byte{byte(i)})
		switch b := byte(i); {
		case b == 32 || b == 9 || b == 10:
			check(t, s)
		case b >= 'a' && b <= 'z':
			check(t, s, name(0, s))
		case b >= '0' && b <= '9':
			check(t, s, number(0, s, int64(b-'0')))
		case b == '(' || b == ')' || b == ',' || b == ';' || b == '=' || b == '*':
			check(t, s, sign(0, s))
		case b == '\'':
			refused(t, s, 0, api.ErrQuote)
		default:
			refused(t, s, 0, api.ErrByte)
			refused(t, "a "+s, 2, api.ErrByte)
			refused(t, "('x'"+s+"y", 4, api.ErrByte)
		}
	}
}

// P17.1: each byte behind a name: it goes on, or another word begins.
func TestInName(t *testing.T) {
	for i := range 256 {
		b := byte(i)
		s := "x" + string([]byte{b})
		switch {
		case b >= 'a' && b <= 'z' || b >= '0' && b <= '9' || b == '_':
			check(t, s, name(0, s))
			check(t, s+"y=", name(0, s+"y"), sign(3, "="))
		case b == 32 || b == 9 || b == 10:
			check(t, s, name(0, "x"))
		case strings.IndexByte("(),;=*", b) >= 0:
			check(t, s, name(0, "x"), sign(1, s[1:]))
		case b == '\'':
			refused(t, s, 1, api.ErrQuote)
		default:
			refused(t, s, 1, api.ErrByte)
		}
	}
}

// P17.1: names have small letters, and begin with one.
func TestNames(t *testing.T) {
	for _, s := range []string{"a", "z", "a0", "z9", "a_", "a__", "abc_def_123", "null", "x_y_z", "abcdefghijklmnop", "qrstuvwxyz"} {
		check(t, s, name(0, s))
		check(t, " "+s+";", name(1, s), sign(len(s)+1, ";"))
	}
	refused(t, "_a", 0, api.ErrByte)
	refused(t, "A", 0, api.ErrByte)
	refused(t, "aB", 1, api.ErrByte)
	refused(t, "a\xc3\xa9", 1, api.ErrByte)
	refused(t, "`a`", 0, api.ErrByte)
	check(t, "0a_", number(0, "0", 0), name(1, "a_"))
	refused(t, "0_a", 1, api.ErrByte)
}

// P17.1: a name of MaxName bytes may be, one of a byte more is too long, whatever stands behind it.
func TestLongName(t *testing.T) {
	for _, more := range []string{"a", "0", "_"} {
		s := "x" + long(more, api.MaxName-1)
		check(t, s, name(0, s))
		check(t, s+" "+s, name(0, s), name(17, s))
		refused(t, s+more, 0, api.ErrLong)
		refused(t, s+more+" ?", 0, api.ErrLong)
		refused(t, "'a' "+s+more, 4, api.ErrLong)
		refused(t, s+" "+s+more, 17, api.ErrLong)
		refused(t, "x"+long(more, api.MaxQuery-1), 0, api.ErrLong)
	}
}

// P17.1: numbers, with leading noughts, and a minus right ahead of digits.
func TestNumbers(t *testing.T) {
	for s, n := range map[string]int64{
		"0": 0, "-0": 0, "00": 0, "-00": 0, "7": 7, "-7": -7, "007": 7, "-007": -7, "0123456789": 123456789, "10": 10, "-10": -10, "08": 8, "0010": 10,
		"9223372036854775807":                      math.MaxInt64,
		"-9223372036854775807":                     -math.MaxInt64,
		"-9223372036854775808":                     math.MinInt64,
		"0009223372036854775807":                   math.MaxInt64,
		"-0009223372036854775808":                  math.MinInt64,
		long("0", api.MaxQuery-1):                  0,
		long("0", api.MaxQuery-2) + "5":            5,
		"-" + long("0", api.MaxQuery-3) + "5":      -5,
		"-" + long("0", 900) + "09223372036854775": -9223372036854775,
	} {
		check(t, s, number(0, s, n))
		check(t, " "+s, number(1, s, n))
		if len(s) < api.MaxQuery-1 {
			check(t, ","+s+",", sign(0, ","), number(1, s, n), sign(len(s)+1, ","))
		}
	}
	check(t, "1-2", number(0, "1", 1), number(1, "-2", -2))
	check(t, "1-2-03", number(0, "1", 1), number(1, "-2", -2), number(3, "-03", -3))
	check(t, "0x1f", number(0, "0", 0), name(1, "x1f"))
	check(t, "1e5", number(0, "1", 1), name(1, "e5"))
}

// P17.1: a minus that isn't right ahead of a digit begins no word.
func TestMinus(t *testing.T) {
	for i := range 256 {
		if b := byte(i); b < '0' || b > '9' {
			refused(t, "-"+string([]byte{b}), 0, api.ErrByte)
			refused(t, "-"+string([]byte{b})+"5", 0, api.ErrByte)
		}
	}
	refused(t, "--5", 0, api.ErrByte)
	refused(t, "5-", 1, api.ErrByte)
	refused(t, "5 --5", 2, api.ErrByte)
	refused(t, "a-b", 1, api.ErrByte)
	refused(t, "+5", 0, api.ErrByte)
	refused(t, "1.5", 1, api.ErrByte)
	refused(t, "1_000", 1, api.ErrByte)
}

// P17.1: a number that is none of 64 bits.
func TestGreatNumbers(t *testing.T) {
	for _, s := range []string{
		"9223372036854775808", "-9223372036854775809", "09223372036854775808", "-09223372036854775809", "18446744073709551615", "18446744073709551616",
		"10000000000000000000", "-10000000000000000000", "99999999999999999999", long("9", api.MaxQuery), "-" + long("9", api.MaxQuery-1), "1" + long("0", 64),
	} {
		refused(t, s, 0, api.ErrNumber)
		if len(s) < api.MaxQuery-5 {
			refused(t, "a = "+s, 4, api.ErrNumber)
			refused(t, s+" ?", 0, api.ErrNumber)
			refused(t, s+"a", 0, api.ErrNumber)
		}
	}
}

// P17.1: what stands between two quotes, each pair of them for one.
func TestTexts(t *testing.T) {
	for s, want := range map[string]string{
		"''": "", "'a'": "a", "''''": "'", "''''''": "''", "'it''s'": "it's", "'''a'": "'a", "'a'''": "a'", "'''a'''": "'a'", "'a''''b'": "a''b",
		"' '": " ", "'\n\t'": "\n\t", "'A?-_`\"\\'": "A?-_`\"\\", "'null'": "null", "'5'": "5", "'(),;=*'": "(),;=*", "'\\n'": "\\n",
		"'\x00'": "\x00", "'\xff\xc3'": "\xff\xc3", "'\xc3\xa9'": "\xc3\xa9", "'--'": "--", "'\r'": "\r",
	} {
		check(t, s, text(0, want))
		check(t, " "+s+"=", text(1, want), sign(len(s)+1, "="))
		check(t, s+" "+s, text(0, want), text(len(s)+1, want))
	}
	for i := range 256 {
		if s := string([]byte{byte(i)}); s != "'" {
			check(t, "'"+s+"'", text(0, s))
			check(t, "'"+s+"'''", text(0, s+"'"))
		}
	}
}

// P17.1: a text of MaxText bytes may be, one of a byte more is too long; a quote that stands twice is one byte.
func TestLongTexts(t *testing.T) {
	for _, unit := range []string{"a", "'", " ", "\x00", "\xc3"} {
		twice := strings.ReplaceAll(unit, "'", "''")
		for n := range 3 * api.MaxText {
			s := "'" + long(twice, n) + "'"
			if n <= 64 {
				check(t, s, text(0, long(unit, n)))
				check(t, s+"a", text(0, long(unit, n)), name(len(s), "a"))
				continue
			}
			refused(t, s, 0, api.ErrLong)
			refused(t, "a="+s+"?", 2, api.ErrLong)
		}
	}
	check(t, "'"+long("\xc3\xa9", 32)+"'", text(0, long("\xc3\xa9", 32)))
	refused(t, "'"+long("\xc3\xa9", 33)+"'", 0, api.ErrLong)
	check(t, "'"+long("x", 63)+"'''", text(0, long("x", 63)+"'"))
	refused(t, "'"+long("x", 64)+"'''", 0, api.ErrLong)
}

// P17.1: a text that has no end: the place is its quote's; a pair of quotes ends no text.
func TestNoEnd(t *testing.T) {
	for _, s := range []string{"'", "'a", "' ", "'''", "'a''", "'a''b", "'''''", "'a b = 5; ?", "'\n", "'\x00", "'" + long("x", api.MaxText), "''" + long("'", 2*api.MaxText-1)} {
		refused(t, s, 0, api.ErrQuote)
		refused(t, "a = "+s, 4, api.ErrQuote)
		refused(t, "'b' "+s, 4, api.ErrQuote)
	}
	refused(t, "'a' 'b' '", 8, api.ErrQuote)
	refused(t, "a'", 1, api.ErrQuote)
	refused(t, "it's", 2, api.ErrQuote)
}

// P17.1: a text that is too long and has no end is told by the one that is named first.
func TestNoEndThatIsLong(t *testing.T) {
	refused(t, "'"+long("x", api.MaxText+1), 0, api.ErrQuote)
	refused(t, "'"+long("x", api.MaxQuery-1), 0, api.ErrQuote)
	refused(t, "'"+long("x", api.MaxText+1)+"''", 0, api.ErrQuote)
}

// P17.1: each sign is a word of its own.
func TestSigns(t *testing.T) {
	check(t, "(),;=*", sign(0, "("), sign(1, ")"), sign(2, ","), sign(3, ";"), sign(4, "="), sign(5, "*"))
	check(t, "((==", sign(0, "("), sign(1, "("), sign(2, "="), sign(3, "="))
	for _, s := range []string{"<", ">", "!", "+", "/", ".", "[", "]", "{", "}", ":", "\"", "%", "&", "|", "~", "^", "#", "$", "@", "\\"} {
		refused(t, "a"+s+"=1", 1, api.ErrByte)
	}
}

// P17.1: of several faults the first one from the left, whatever the others are.
func TestFirstFault(t *testing.T) {
	faults := []struct {
		s string
		e api.Errno
	}{
		{"?", api.ErrByte}, {"-", api.ErrByte}, {"_", api.ErrByte}, {"9223372036854775808", api.ErrNumber}, {long("a", 17), api.ErrLong}, {"'" + long("a", 65) + "'", api.ErrLong},
	}
	for _, f := range faults {
		for _, behind := range faults {
			refused(t, f.s+" "+behind.s, 0, f.e)
			refused(t, "a, 'b' "+f.s+"\n"+behind.s, 7, f.e)
		}
		refused(t, f.s+" '", 0, f.e)
		refused(t, "'"+strings.ReplaceAll(f.s, "'", ""), 0, api.ErrQuote)
	}
}

// P17.1: MaxQuery bytes may be, one more may not, whatever they are: that is told ahead of all else, at 0.
func TestBig(t *testing.T) {
	if api.MaxQuery != 1024 {
		t.Fatal("another limit")
	}
	var want []api.Word
	for i := range api.MaxQuery {
		want = append(want, sign(i, "="))
	}
	check(t, long("=", api.MaxQuery), want...)
	check(t, long(" ", api.MaxQuery-1)+"a", name(api.MaxQuery-1, "a"))
	refused(t, long(" ", api.MaxQuery-1)+"?", api.MaxQuery-1, api.ErrByte)
	refused(t, long(" ", api.MaxQuery-1)+"-", api.MaxQuery-1, api.ErrByte)
	for _, unit := range []string{"=", " ", "a", "?", "'", "0", "9", "\x00"} {
		refused(t, long(unit, api.MaxQuery+1), 0, api.ErrBig)
		refused(t, long(unit, 1<<20), 0, api.ErrBig)
	}
	refused(t, "a ?"+long(" ", api.MaxQuery), 0, api.ErrBig)
}

// P17.1: the number is what the standard library reads, near each bound of 64 bits and of what a sloppy sum would wrap round at.
func TestNearBounds(t *testing.T) {
	for _, bound := range []uint64{0, 1 << 31, 1 << 32, 1 << 62, 1 << 63, math.MaxUint64} {
		for step := range uint64(7) {
			for _, s := range []string{strconv.FormatUint(bound+step-3, 10), "-" + strconv.FormatUint(bound+step-3, 10)} {
				n, err := strconv.ParseInt(s, 10, 64)
				if err != nil {
					refused(t, s, 0, api.ErrNumber)
					continue
				}
				check(t, s, number(0, s, n))
			}
		}
	}
}

// P17.1: what is answered shares no memory with the text, and is new each time.
func TestMemory(t *testing.T) {
	s := strings.Clone("select (x_1), -05, 'it''s', 'plain' ; *")
	from := uintptr(unsafe.Pointer(unsafe.StringData(s)))
	list, _, _ := lex.Words(s)
	for _, w := range list {
		at := uintptr(unsafe.Pointer(unsafe.StringData(w.Text)))
		if w.Text != "" && at >= from && at < from+uintptr(len(s)) {
			t.Fatalf("the word %#v lies in the text", w)
		}
	}
	want := slices.Clone(list)
	again, _, _ := lex.Words(s)
	whole := list[:cap(list)]
	for i := range whole {
		whole[i] = api.Word{Kind: -1, Text: "spoilt"}
	}
	if !slices.Equal(again, want) {
		t.Fatalf("%#v, not %#v", again, want)
	}
	check(t, s, want[:len(want)-1]...)
}
