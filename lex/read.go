package lex

import (
	"strconv"
	"strings"

	"lintel/api"
)

const (
	blanks  = " \t\n"
	letters = "abcdefghijklmnopqrstuvwxyz"
	digits  = "0123456789"
	inNames = letters + digits + "_"
	minus   = "-"
	quote   = "'"
	signs   = "(),;=*"
)

// reader stands at a word of a text: reading it brings at behind it.
type reader struct {
	text string
	at   int
}

// past answers the first place, from one on, whose byte is none of some.
func (r *reader) past(from int, some string) int {
	for from < len(r.text) && strings.IndexByte(some, r.text[from]) >= 0 {
		from++
	}
	return from
}

// upTo answers the word from at to end as it stands, and goes there. Its Text is memory of its own, so that no word keeps the whole text.
func (r *reader) upTo(end, kind int) api.Word {
	w := api.Word{Kind: kind, At: r.at, Text: strings.Clone(r.text[r.at:end])}
	r.at = end
	return w
}

func (r *reader) name() (api.Word, api.Errno) {
	w := r.upTo(r.past(r.at, inNames), api.WordName)
	if len(w.Text) > api.MaxName {
		return api.Word{}, api.ErrLong
	}
	return w, api.OK
}

func (r *reader) number() (api.Word, api.Errno) {
	first := r.at
	if r.text[first] == minus[0] {
		first++
	}
	end := r.past(first, digits)
	if end == first {
		// A minus begins a word only right ahead of a digit.
		return api.Word{}, api.ErrByte
	}
	w := r.upTo(end, api.WordNumber)
	n, err := strconv.ParseInt(w.Text, 10, 64)
	if err != nil {
		return api.Word{}, api.ErrNumber
	}
	w.N = n
	return w, api.OK
}

// quoted goes on to the end of a text that is too long: one without an end is ErrQuote, however long it is.
func (r *reader) quoted() (api.Word, api.Errno) {
	var out []byte
	for i := r.at + 1; i < len(r.text); i++ {
		if r.text[i] == quote[0] {
			if !strings.HasPrefix(r.text[i+1:], quote) {
				return r.closed(out, i+1)
			}
			i++
		}
		out = append(out, r.text[i])
	}
	return api.Word{}, api.ErrQuote
}

// closed answers the word of a text that ends ahead of end, by its bytes: a quote that stands twice counts once.
func (r *reader) closed(out []byte, end int) (api.Word, api.Errno) {
	if len(out) > api.MaxText {
		return api.Word{}, api.ErrLong
	}
	w := api.Word{Kind: api.WordText, At: r.at, Text: string(out)}
	r.at = end
	return w, api.OK
}

func (r *reader) sign() (api.Word, api.Errno) {
	return r.upTo(r.at+1, api.WordSign), api.OK
}
