package parse

import (
	"slices"
	"strings"

	"lintel/api"
	"lintel/value"
)

// Print answers the text whose statements list is, or ErrArg if there is none.
func Print(list []api.Stmt) (string, api.Errno) {
	if len(list) > api.MaxStmts {
		return "", api.ErrArg
	}
	p := &printer{}
	for i, s := range list {
		if i > 0 {
			p.add(";")
		}
		p.statement(s)
	}
	text := joined(p.words)
	// Parse has the last word: whatever may not be in a statement is read otherwise than it was, or not at all.
	if again, _, e := Parse(text); e != api.OK || !slices.EqualFunc(again, list, sameStmt) {
		return "", api.ErrArg
	}
	return text, api.OK
}

// joined answers the words with blanks between them, where these belong.
func joined(words []string) string {
	var b strings.Builder
	for i, w := range words {
		if b.Len() > api.MaxQuery {
			break // Too long already, and what is left may be without bound.
		}
		if i > 0 && parted(words[i-1], w) {
			b.WriteByte(' ')
		}
		b.WriteString(w)
	}
	return b.String()
}

// parted tells whether a blank belongs between two words.
func parted(left, right string) bool {
	return left != "(" && right != ")" && right != "," && right != ";"
}

func sameStmt(a, b api.Stmt) bool {
	return a.Kind == b.Kind && a.Table == b.Table && slices.Equal(a.Values, b.Values) &&
		a.Set == b.Set && a.To == b.To && a.Where == b.Where && a.Is == b.Is && sameDdl(a.Ddl, b.Ddl)
}

func sameDdl(a, b api.Ddl) bool {
	return a.Kind == b.Kind && a.Table == b.Table && a.Name == b.Name && a.Column == b.Column && a.Parent == b.Parent &&
		a.Unique == b.Unique && a.Type == b.Type && a.Default == b.Default && slices.Equal(a.Columns, b.Columns)
}

// A printer puts one word behind the other. It looks at none of them: see Print.
type printer struct {
	words []string
}

func (p *printer) add(words ...string) {
	p.words = append(p.words, words...)
}

func (p *printer) statement(s api.Stmt) {
	kinds := map[int]func(*printer, api.Stmt){
		api.Insert: (*printer).insertRow,
		api.Update: (*printer).updateRows,
		api.Delete: (*printer).deleteRows,
		api.Select: (*printer).selectRows,
		api.Change: (*printer).change,
	}
	if do := kinds[s.Kind]; do != nil {
		do(p, s)
	}
}

func (p *printer) insertRow(s api.Stmt) {
	p.add("insert", "into", s.Table, "values", "(")
	for i, v := range s.Values {
		if i > 0 {
			p.add(",")
		}
		p.add(written(v))
	}
	p.add(")")
}

func (p *printer) updateRows(s api.Stmt) {
	p.add("update", s.Table, "set", s.Set, "=", written(s.To))
	p.where(s)
}

func (p *printer) deleteRows(s api.Stmt) {
	p.add("delete", "from", s.Table)
	p.where(s)
}

func (p *printer) selectRows(s api.Stmt) {
	p.add("select", "*", "from", s.Table)
	p.where(s)
}

func (p *printer) where(s api.Stmt) {
	if s.Where != "" {
		p.add("where", s.Where, "=", written(s.Is))
	}
}

func (p *printer) change(s api.Stmt) {
	kinds := map[int]func(*printer, api.Ddl){
		api.AddTable:    (*printer).addTable,
		api.AddIndex:    (*printer).addIndex,
		api.DropIndex:   (*printer).dropIndex,
		api.AddColumn:   (*printer).addColumn,
		api.DropColumn:  (*printer).dropColumn,
		api.AddForeign:  (*printer).addForeign,
		api.DropForeign: (*printer).dropForeign,
	}
	if do := kinds[s.Ddl.Kind]; do != nil {
		do(p, s.Ddl)
	}
}

func (p *printer) addTable(d api.Ddl) {
	p.add("create", "table", d.Table, "(")
	for i, c := range d.Columns {
		if i > 0 {
			p.add(",")
		}
		p.add(c.Name, kindName(c.Kind))
	}
	p.add(")")
}

func (p *printer) addIndex(d api.Ddl) {
	p.add("create")
	if d.Unique {
		p.add("unique")
	}
	p.add("index", d.Name, "on", d.Table, "(", d.Column, ")")
}

func (p *printer) dropIndex(d api.Ddl) {
	p.add("drop", "index", d.Name, "on", d.Table)
}

func (p *printer) addColumn(d api.Ddl) {
	p.add("alter", "table", d.Table, "add", "column", d.Column, kindName(d.Type))
	if d.Default != (api.Value{}) {
		p.add("default", written(d.Default))
	}
}

func (p *printer) dropColumn(d api.Ddl) {
	p.add("alter", "table", d.Table, "drop", "column", d.Column)
}

func (p *printer) addForeign(d api.Ddl) {
	p.add("alter", "table", d.Table, "add", "foreign", "key", d.Name, "(", d.Column, ")", "references", d.Parent)
}

func (p *printer) dropForeign(d api.Ddl) {
	p.add("alter", "table", d.Table, "drop", "foreign", "key", d.Name)
}

// written answers a value as it is printed. One that may not be is nothing: no text has it.
func written(v api.Value) string {
	s, _ := value.Print(v)
	return s
}

// kindName answers the name of a column's kind, or nothing, if it has none.
func kindName(kind int) string {
	switch kind {
	case api.Int:
		return "int"
	case api.Text:
		return "text"
	}
	return ""
}
