package wire

import (
	"lintel/api"
)

// Each method goes through the struct whose name it has (shard: api.Range, as range is the language's own word), field by field in the order in which package api has them: the order is the form.

func (t *tape) msg(m *api.Msg) {
	t.numbers(&m.Kind, &m.From, &m.To, &m.Term, &m.Index, &m.Prev, &m.Commit)
	t.yes(&m.Good)
	list(t, &m.List, (*tape).entry)
	t.text(&m.Snap)
}

func (t *tape) entry(e *api.Entry) {
	t.numbers(&e.Term, &e.At, &e.Born)
	t.text(&e.Text)
}

func (t *tape) delta(d *api.Delta) {
	t.numbers(&d.Term, &d.Vote)
	t.yes(&d.Whole)
	t.numbers(&d.Base, &d.BaseTerm)
	t.text(&d.Snap)
	t.numbers(&d.From)
	list(t, &d.List, (*tape).entry)
}

func (t *tape) command(c *api.Command) {
	t.numbers(&c.Kind)
	t.tid(&c.By)
	t.tid(&c.Txn)
	t.numbers(&c.Home)
	list(t, &c.Reads, (*tape).read)
	list(t, &c.Writes, (*tape).write)
	t.numbers(&c.Min, &c.Until, &c.Ts, &c.Version, &c.Call)
	t.ddl(&c.Ddl)
	t.numbers(&c.Job, &c.Phase)
	t.text(&c.Mark)
	t.errno(&c.Why)
}

func (t *tape) errno(e *api.Errno) {
	n := int(*e)
	t.numbers(&n)
	*e = api.Errno(n)
}

func (t *tape) tid(x *api.Tid) {
	t.numbers(&x.Node, &x.Boot, &x.Seq)
}

func (t *tape) read(r *api.Read) {
	t.span(&r.Span)
	list(t, &r.Seen, (*tape).stamp)
}

func (t *tape) span(p *api.Span) {
	t.text(&p.From)
	t.text(&p.To)
}

func (t *tape) stamp(s *api.Stamp) {
	t.text(&s.Key)
	t.numbers(&s.Ts)
}

func (t *tape) write(w *api.Write) {
	t.text(&w.Key)
	t.text(&w.Value)
	t.yes(&w.Dead)
}

func (t *tape) shard(x *api.Range) {
	list(t, &x.Rows, (*tape).row)
	list(t, &x.Locks, (*tape).lock)
	list(t, &x.Records, (*tape).record)
	list(t, &x.Over, (*tape).tid)
	t.numbers(&x.High)
}

func (t *tape) row(r *api.Row) {
	t.text(&r.Key)
	list(t, &r.List, (*tape).version)
}

func (t *tape) version(v *api.Version) {
	t.numbers(&v.Ts)
	t.text(&v.Value)
	t.yes(&v.Dead)
}

func (t *tape) lock(l *api.Lock) {
	t.tid(&l.Txn)
	t.numbers(&l.Home, &l.Until)
	list(t, &l.Spans, (*tape).span)
	list(t, &l.Writes, (*tape).write)
}

func (t *tape) record(r *api.Record) {
	t.tid(&r.Txn)
	t.numbers(&r.Ts)
}

func (t *tape) plan(p *api.Plan) {
	t.schema(&p.Schema)
	list(t, &p.Leases, (*tape).lease)
	list(t, &p.Jobs, (*tape).job)
}

func (t *tape) schema(s *api.Schema) {
	t.numbers(&s.Version, &s.Last)
	list(t, &s.Tables, (*tape).table)
}

func (t *tape) table(x *api.Table) {
	t.numbers(&x.Id)
	t.text(&x.Name)
	list(t, &x.Columns, (*tape).column)
	list(t, &x.Indexes, (*tape).index)
	list(t, &x.Keys, (*tape).foreign)
}

func (t *tape) column(c *api.Column) {
	t.numbers(&c.Id)
	t.text(&c.Name)
	t.numbers(&c.Kind, &c.State)
	t.value(&c.Default)
}

func (t *tape) value(v *api.Value) {
	t.numbers(&v.Kind)
	t.number(&v.N)
	t.text(&v.S)
}

func (t *tape) index(x *api.Index) {
	t.numbers(&x.Id)
	t.text(&x.Name)
	t.numbers(&x.Column)
	t.yes(&x.Unique)
	t.numbers(&x.State)
}

func (t *tape) foreign(f *api.Foreign) {
	t.numbers(&f.Id)
	t.text(&f.Name)
	t.numbers(&f.Column, &f.Parent, &f.State)
}

func (t *tape) lease(l *api.Lease) {
	t.numbers(&l.Node, &l.Version, &l.Until)
}

func (t *tape) job(j *api.Job) {
	t.numbers(&j.Id, &j.Call)
	t.tid(&j.By)
	t.ddl(&j.Ddl)
	t.numbers(&j.Phase)
	t.yes(&j.Back)
	t.yes(&j.Drain)
	t.text(&j.Mark)
	t.numbers(&j.End)
	t.errno(&j.Why)
}

func (t *tape) ddl(d *api.Ddl) {
	t.numbers(&d.Kind)
	t.text(&d.Table)
	t.text(&d.Name)
	t.text(&d.Column)
	t.text(&d.Parent)
	t.yes(&d.Unique)
	t.numbers(&d.Type)
	t.value(&d.Default)
	list(t, &d.Columns, (*tape).column)
}
