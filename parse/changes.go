package parse

import (
	"lintel/api"
)

// change makes the statement that is read now a change of a kind, and answers where that goes.
func (p *parser) change(kind int) *api.Ddl {
	p.stmt.Kind = api.Change
	p.stmt.Ddl.Kind = kind
	return &p.stmt.Ddl
}

func (p *parser) create() bool {
	return p.choose(map[string]step{
		"table":  (*parser).createTable,
		"unique": (*parser).createUnique,
		"index":  (*parser).createIndex,
	})
}

func (p *parser) createTable() bool {
	d := p.change(api.AddTable)
	return p.name(&d.Table) && p.several((*parser).column)
}

// column reads one of the columns of a new table.
func (p *parser) column() bool {
	var c api.Column
	if !p.name(&c.Name) || !p.kind(&c.Kind) {
		return false
	}
	p.stmt.Ddl.Columns = append(p.stmt.Ddl.Columns, c)
	return true
}

func (p *parser) createUnique() bool {
	p.stmt.Ddl.Unique = true
	return p.take("index") && p.createIndex()
}

func (p *parser) createIndex() bool {
	d := p.change(api.AddIndex)
	return p.name(&d.Name) && p.take("on") && p.name(&d.Table) && p.take("(") && p.name(&d.Column) && p.take(")")
}

func (p *parser) dropIndex() bool {
	d := p.change(api.DropIndex)
	return p.take("index") && p.name(&d.Name) && p.take("on") && p.name(&d.Table)
}

func (p *parser) alter() bool {
	return p.take("table") && p.name(&p.stmt.Ddl.Table) && p.choose(map[string]step{
		"add":  (*parser).add,
		"drop": (*parser).drop,
	})
}

func (p *parser) add() bool {
	return p.choose(map[string]step{
		"column":  (*parser).addColumn,
		"foreign": (*parser).addForeign,
	})
}

func (p *parser) addColumn() bool {
	d := p.change(api.AddColumn)
	return p.name(&d.Column) && p.kind(&d.Type) && (!p.take("default") || p.value(&d.Default))
}

func (p *parser) addForeign() bool {
	d := p.change(api.AddForeign)
	return p.take("key") && p.name(&d.Name) && p.take("(") && p.name(&d.Column) && p.take(")", "references") && p.name(&d.Parent)
}

func (p *parser) drop() bool {
	return p.choose(map[string]step{
		"column":  (*parser).dropColumn,
		"foreign": (*parser).dropForeign,
	})
}

func (p *parser) dropColumn() bool {
	d := p.change(api.DropColumn)
	return p.name(&d.Column)
}

func (p *parser) dropForeign() bool {
	d := p.change(api.DropForeign)
	return p.take("key") && p.name(&d.Name)
}
