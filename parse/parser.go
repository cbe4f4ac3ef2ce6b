package parse

import (
	"lintel/api"
)

// The words that stand for many: no word of a text is written so, for names have small letters.
const (
	free   = "NAME"
	number = "NUMBER"
	quoted = "TEXT"
	end    = "END"
)

// null is the name that is a value.
const null = "null"

// A step reads on behind the word that led to it; false: the word that stands there now may not.
type step func(*parser) bool

// A parser stands at one of the words. The last one of them is the end, which it never goes past.
type parser struct {
	words []api.Word
	at    int
	stmt  api.Stmt // the one that is read now
	list  []api.Stmt
}

// here answers how the grammar calls the word that stands there. A text that holds a sign or a name is none of these, so it has another answer than they.
func (p *parser) here() string {
	w := p.words[p.at]
	switch {
	case w.Kind == api.WordNumber:
		return number
	case w.Kind == api.WordText:
		return quoted
	case w.Kind == api.WordEnd:
		return end
	case w.Kind == api.WordName && !reserved(w.Text):
		return free
	}
	return w.Text
}

// reserved tells whether s is a name that the grammar keeps for itself.
func reserved(s string) bool {
	switch s {
	case "add", "alter", "column", "create", "default", "delete", "drop", "foreign", "from", "index", "insert", "int", "into", "key", null,
		"on", "references", "select", "set", "table", "text", "unique", "update", "values", "where":
		return true
	}
	return false
}

// next answers the word that stands there, and goes past it.
func (p *parser) next() api.Word {
	p.at++
	return p.words[p.at-1]
}

// take goes past these words, one behind the other, as far as they stand there; false: one of them does not.
func (p *parser) take(words ...string) bool {
	for _, w := range words {
		if p.here() != w {
			return false
		}
		p.at++
	}
	return true
}

// choose goes past a word of the table, and does what it leads to.
func (p *parser) choose(table map[string]step) bool {
	do := table[p.here()]
	if do == nil {
		return false
	}
	p.at++
	return do(p)
}

// whole reads a statement behind its first word, and puts it behind the others.
func (p *parser) whole(do step) bool {
	p.at++
	p.stmt = api.Stmt{}
	if !do(p) {
		return false
	}
	p.list = append(p.list, p.stmt)
	return true
}

// several reads what stands in brackets: one, or more with a comma between each two.
func (p *parser) several(one step) bool {
	if !p.take("(") || !one(p) {
		return false
	}
	for p.take(",") {
		if !one(p) {
			return false
		}
	}
	return p.take(")")
}

func (p *parser) name(to *string) bool {
	if p.here() != free {
		return false
	}
	*to = p.next().Text
	return true
}

// kind reads a column's kind.
func (p *parser) kind(to *int) bool {
	kinds := map[string]int{"int": api.Int, "text": api.Text}
	k, there := kinds[p.here()]
	if !there {
		return false
	}
	p.at++
	*to = k
	return true
}

func (p *parser) value(to *api.Value) bool {
	read := map[string]func(*parser) api.Value{
		null:   (*parser).nullValue,
		number: (*parser).numberValue,
		quoted: (*parser).textValue,
	}[p.here()]
	if read == nil {
		return false
	}
	*to = read(p)
	return true
}

func (p *parser) nullValue() api.Value {
	p.at++
	return api.Value{}
}

func (p *parser) numberValue() api.Value {
	return api.Value{Kind: api.Int, N: p.next().N}
}

func (p *parser) textValue() api.Value {
	return api.Value{Kind: api.Text, S: p.next().Text}
}
