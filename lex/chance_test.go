package lex_test

import (
	"math/big"
	"math/rand"
	"regexp"
	"slices"
	"strings"
	"testing"

	"lintel/api"
	"lintel/lex"
)

var (
	blankForm  = regexp.MustCompile(`^[ \t\n]+`)
	nameForm   = regexp.MustCompile(`^[a-z][a-z0-9_]*`)
	numberForm = regexp.MustCompile(`^-?[0-9]+`)
	signForm   = regexp.MustCompile(`^[(),;=*]`)
)

// textLength answers how many bytes the text at the front of s takes, another way than the program: the first run of an odd number of quotes behind the first quote ends it. 0: it has no end.
func textLength(s string) int {
	for i := 1; i < len(s); {
		n := len(s[i:]) - len(strings.TrimLeft(s[i:], "'"))
		if n%2 == 1 {
			return i + n
		}
		i += max(n, 1)
	}
	return 0
}

// modelWord answers the word at the front of s, how many bytes it takes, and its error.
func modelWord(s string) (api.Word, int, api.Errno) {
	if f := nameForm.FindString(s); f != "" {
		if len(f) > 16 {
			return api.Word{}, 0, api.ErrLong
		}
		return name(0, f), len(f), api.OK
	}
	if f := numberForm.FindString(s); f != "" {
		n, _ := new(big.Int).SetString(f, 10)
		if !n.IsInt64() {
			return api.Word{}, 0, api.ErrNumber
		}
		return number(0, f, n.Int64()), len(f), api.OK
	}
	if f := signForm.FindString(s); f != "" {
		return sign(0, f), 1, api.OK
	}
	if s[0] != '\'' {
		return api.Word{}, 0, api.ErrByte
	}
	n := textLength(s)
	if n == 0 {
		return api.Word{}, 0, api.ErrQuote
	}
	w := text(0, strings.ReplaceAll(s[1:n-1], "''", "'"))
	if len(w.Text) > 64 {
		return api.Word{}, 0, api.ErrLong
	}
	return w, n, api.OK
}

// model does by the chapter's words what Words does.
func model(s string) ([]api.Word, int, api.Errno) {
	if len(s) > 1024 {
		return nil, 0, api.ErrBig
	}
	var list []api.Word
	for at := 0; ; {
		at += len(blankForm.FindString(s[at:]))
		if at == len(s) {
			return append(list, api.Word{Kind: api.WordEnd, At: at}), 0, api.OK
		}
		w, n, e := modelWord(s[at:])
		if e != api.OK {
			return nil, at, e
		}
		w.At = at
		at += n
		list = append(list, w)
	}
}

func checkModel(t *testing.T, s string) api.Errno {
	t.Helper()
	got, at, e := lex.Words(s)
	want, wantAt, wantE := model(s)
	if !slices.Equal(got, want) || at != wantAt || e != wantE {
		t.Fatalf("Words(%q): %#v, %d, %d, not %#v, %d, %d", s, got, at, e, want, wantAt, wantE)
	}
	return e
}

// P17.1: all texts of up to six of some bytes, one of each kind.
func TestAllShort(t *testing.T) {
	last := []string{""}
	for range 6 {
		var next []string
		for _, s := range last {
			for _, b := range []string{"'", "-", "0", "a", " ", "=", "_"} {
				checkModel(t, s+b)
				next = append(next, s+b)
			}
		}
		last = next
	}
}

// P17.1: texts by chance, of pieces that are whole words mostly; each error comes, and OK comes.
func TestChance(t *testing.T) {
	r := rand.New(rand.NewSource(17))
	pieces := []string{
		" ", "\t", "\n", " ", "a", "z9_", "select", "null", "abcdefghijklmnop", "0", "-0", "007", "-12", "9223372036854775807", "-9223372036854775808",
		"''", "'a'", "'it''s'", "'" + long("''", 64) + "'", "(", ")", ",", ";", "=", "*",
	}
	wrong := []string{"?", "-", "_", "'", "''", "A", "\xc3\xa9", "abcdefghijklmnopq", "9223372036854775808", "'" + long("x", 65) + "'", "\r", "\x00", "+", long(" ", 1000)}
	seen := map[api.Errno]int{}
	for range 60000 {
		var b strings.Builder
		for range r.Intn(20) {
			b.WriteString(pieces[r.Intn(len(pieces))])
			if r.Intn(2) == 0 {
				b.WriteByte(' ')
			}
			if r.Intn(30) == 0 {
				b.WriteString(wrong[r.Intn(len(wrong))])
			}
		}
		seen[checkModel(t, b.String())]++
	}
	for _, e := range []api.Errno{api.OK, api.ErrBig, api.ErrByte, api.ErrQuote, api.ErrNumber, api.ErrLong} {
		if seen[e] < 100 {
			t.Errorf("the answer %d came %d times alone", e, seen[e])
		}
	}
}

// P17.1: bytes by chance, of all that there are.
func TestChanceBytes(t *testing.T) {
	r := rand.New(rand.NewSource(170))
	for range 60000 {
		b := make([]byte, r.Intn(40))
		for i := range b {
			b[i] = byte(r.Intn(256))
			if r.Intn(4) > 0 {
				b[i] = " '-09azq_=(;*"[r.Intn(13)]
			}
		}
		checkModel(t, string(b))
	}
}
