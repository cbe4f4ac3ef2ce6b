// Package value is layer 1: null, whole numbers and texts, their order and how they are written.
package value

import (
	"cmp"
	"strconv"
	"strings"

	"lintel/api"
)

const (
	null  = "null"
	quote = '\''

	// No value is written longer: a text of quotes alone, each of them twice, between its two quotes.
	maxPrint = 2*api.MaxText + 2
)

// Check answers ErrValue if v may not be.
func Check(v api.Value) api.Errno {
	good := false
	switch v.Kind {
	case api.Null:
		good = v.N == 0 && v.S == ""
	case api.Int:
		good = v.S == ""
	case api.Text:
		good = v.N == 0 && len(v.S) <= api.MaxText
	}
	if !good {
		return api.ErrValue
	}
	return api.OK
}

// Compare answers -1, 0 or 1, by kind, then by number, then by text. It orders values that may not be, too.
func Compare(a, b api.Value) int {
	return cmp.Or(cmp.Compare(a.Kind, b.Kind), cmp.Compare(a.N, b.N), strings.Compare(a.S, b.S))
}

// Print answers v as it is written, or ErrValue if v may not be.
func Print(v api.Value) (string, api.Errno) {
	if e := Check(v); e != api.OK {
		return "", e
	}
	var out []byte
	switch v.Kind {
	case api.Int:
		out = strconv.AppendInt(out, v.N, 10)
	case api.Text:
		out = appendText(out, v.S)
	default:
		out = append(out, null...)
	}
	return string(out), api.OK
}

// appendText goes by bytes, not by runes: a text need not be UTF-8 and must come through as it is.
func appendText(out []byte, s string) []byte {
	out = append(out, quote)
	for i := range len(s) {
		if s[i] == quote {
			out = append(out, quote)
		}
		out = append(out, s[i])
	}
	return append(out, quote)
}

// Read answers the value that Print writes as s, or ErrValue if there is none.
func Read(s string) (api.Value, api.Errno) {
	if s == "" || len(s) > maxPrint {
		return api.Value{}, api.ErrValue
	}
	v := guess(s)
	// Print has the last word: whatever else the guess took for a number or a text falls here.
	if p, e := Print(v); e != api.OK || p != s {
		return api.Value{}, api.ErrValue
	}
	return v, api.OK
}

// guess answers the one value that s, which isn't empty, could be; if s is none, the guess is printed otherwise.
func guess(s string) api.Value {
	switch {
	case s == null:
		return api.Value{}
	case s[0] == quote:
		return api.Value{Kind: api.Text, S: bare(s[1:])}
	}
	n, err := strconv.ParseInt(s, 10, 64)
	if err != nil {
		return api.Value{}
	}
	return api.Value{Kind: api.Int, N: n}
}

// bare takes one quote of each pair away, and the last one.
func bare(s string) string {
	var out []byte
	for i := 0; i < len(s); i++ {
		if s[i] == quote {
			i++
			if i == len(s) {
				break
			}
		}
		out = append(out, s[i])
	}
	return string(out)
}
