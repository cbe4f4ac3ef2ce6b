package parse

import (
	"lintel/api"
)

func (p *parser) insertRow() bool {
	p.stmt.Kind = api.Insert
	return p.take("into") && p.name(&p.stmt.Table) && p.take("values") && p.several((*parser).item)
}

// item reads one of the values of a row.
func (p *parser) item() bool {
	var v api.Value
	if !p.value(&v) {
		return false
	}
	p.stmt.Values = append(p.stmt.Values, v)
	return true
}

func (p *parser) updateRows() bool {
	p.stmt.Kind = api.Update
	return p.name(&p.stmt.Table) && p.take("set") && p.equation(&p.stmt.Set, &p.stmt.To) && p.where()
}

func (p *parser) deleteRows() bool {
	p.stmt.Kind = api.Delete
	return p.take("from") && p.name(&p.stmt.Table) && p.where()
}

func (p *parser) selectRows() bool {
	p.stmt.Kind = api.Select
	return p.take("*", "from") && p.name(&p.stmt.Table) && p.where()
}

// where reads which rows are meant, if that is said.
func (p *parser) where() bool {
	return !p.take("where") || p.equation(&p.stmt.Where, &p.stmt.Is)
}

// equation reads a column's name and its value.
func (p *parser) equation(column *string, v *api.Value) bool {
	return p.name(column) && p.take("=") && p.value(v)
}
