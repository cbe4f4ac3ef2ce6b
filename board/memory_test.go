package board_test

import (
	"testing"

	"lintel/api"
)

// fill writes over all of a list, and over its spare room.
func fill[T any](list []T, x T) {
	list = list[:cap(list)]
	for i := range list {
		list[i] = x
	}
}

func spoilSchema(s api.Schema) {
	for _, t := range s.Tables {
		fill(t.Columns, api.Column{Id: -77, Name: "spoilt"})
		fill(t.Indexes, api.Index{Id: -77, Name: "spoilt"})
		fill(t.Keys, api.Foreign{Id: -77, Name: "spoilt"})
	}
	fill(s.Tables, api.Table{Id: -77, Name: "spoilt"})
}

func spoilJobs(list []api.Job) {
	for _, j := range list {
		fill(j.Ddl.Columns, api.Column{Id: -77, Name: "spoilt"})
	}
	fill(list, api.Job{Id: -77, Mark: "spoilt"})
}

func spoil(p api.Plan) {
	spoilSchema(p.Schema)
	spoilJobs(p.Jobs)
	fill(p.Leases, api.Lease{Node: -77, Version: -77})
}

// stretch gives a list spare room with something in it.
func stretch[T any](list []T, spare T) []T {
	n := len(list)
	return append(append(make([]T, 0, n+3), list...), spare, spare, spare)[:n]
}

// roomy gives all lists of a state spare room, with something in it.
func roomy(p api.Plan) api.Plan {
	p = copyOf(p)
	for i := range p.Schema.Tables {
		t := &p.Schema.Tables[i]
		t.Columns = stretch(t.Columns, api.Column{Id: 99})
		t.Indexes = stretch(t.Indexes, api.Index{Id: 99})
		t.Keys = stretch(t.Keys, api.Foreign{Id: 99})
	}
	for i := range p.Jobs {
		p.Jobs[i].Ddl.Columns = stretch(p.Jobs[i].Ddl.Columns, api.Column{Id: 99})
	}
	p.Schema.Tables = stretch(p.Schema.Tables, api.Table{Id: 99})
	p.Jobs = stretch(p.Jobs, api.Job{Id: 99})
	p.Leases = stretch(p.Leases, api.Lease{Node: 99})
	return p
}

// whole answers a state with the spare room of its lists.
func whole(p api.Plan) api.Plan {
	p.Schema.Tables = append([]api.Table(nil), p.Schema.Tables[:cap(p.Schema.Tables)]...)
	for i, t := range p.Schema.Tables {
		p.Schema.Tables[i].Columns, p.Schema.Tables[i].Indexes, p.Schema.Tables[i].Keys = t.Columns[:cap(t.Columns)], t.Indexes[:cap(t.Indexes)], t.Keys[:cap(t.Keys)]
	}
	p.Jobs = append([]api.Job(nil), p.Jobs[:cap(p.Jobs)]...)
	for i, j := range p.Jobs {
		p.Jobs[i].Ddl.Columns = j.Ddl.Columns[:cap(j.Ddl.Columns)]
	}
	p.Leases = p.Leases[:cap(p.Leases)]
	return copyOf(p)
}

// busy answers commands that change all of the state good, and Submits with columns.
func busy() []api.Command {
	return []api.Command{
		mark(4, 3, "n"), over(4, 3), submit(50, newTable("x")), submit(51, newTable("y")), submit(52, newTable("z")), goes(4, 4), goes(6, 0), grant(1), grant(2),
		goes(6, 1), goes(6, 2), goes(7, 0), goes(8, 0),
	}
}

// P16.4: whoever changes what was told, or writes behind it, changes nothing in the board.
func TestWhatIsToldIsNewMemory(t *testing.T) {
	b := loaded(t, roomy(good(t)))
	for i, c := range append([]api.Command{{}}, busy()...) {
		if got := b.Do(1000+100*i, c); i > 0 && (got.Err != api.OK || !got.New) {
			t.Fatalf("Do(%+v): %+v", c, got)
		}
		want := copyOf(b.Save())
		job, move, there := b.Hand()
		kept := copyOf(api.Plan{Jobs: []api.Job{job}}).Jobs[0]
		spoil(b.Save())
		spoilSchema(b.Schema())
		spoilJobs(b.Jobs())
		spoilJobs([]api.Job{job})
		checkSave(t, b, want)
		checkHand(t, b, kept, move, there)
	}
}

// P16.4: no two lists of one answer, and no two answers, share memory.
func TestAnswersAreApart(t *testing.T) {
	b := loaded(t, good(t))
	b.Do(1, submit(50, newTable("x")))
	want := copyOf(b.Save())
	first, second := b.Save(), b.Save()
	s, jobs := b.Schema(), b.Jobs()
	for _, x := range first.Schema.Tables {
		_ = append(x.Columns, api.Column{Id: 99})
		_ = append(x.Indexes, api.Index{Id: 99})
		_ = append(x.Keys, api.Foreign{Id: 99})
	}
	for _, j := range first.Jobs {
		_ = append(j.Ddl.Columns, api.Column{Id: 99})
	}
	_, _, _ = append(first.Jobs, api.Job{}), append(first.Leases, api.Lease{}), append(first.Schema.Tables, api.Table{})
	if !same(first, want) {
		t.Fatalf("lists of one answer share memory: %+v", first)
	}
	spoil(first)
	if !same(second, want) || !same(api.Plan{Schema: s, Leases: want.Leases, Jobs: jobs}, want) {
		t.Fatal("two answers share memory")
	}
}

// P16.4: what was told stays as it is, whatever the board is told later.
func TestWhatWasToldStays(t *testing.T) {
	b := loaded(t, good(t))
	p, s, jobs := b.Save(), b.Schema(), b.Jobs()
	hand, _, _ := b.Hand()
	for i, c := range busy() {
		b.Do(1000+100*i, c)
	}
	if !same(p, good(t)) || !same(api.Plan{Schema: s, Leases: p.Leases, Jobs: jobs}, good(t)) {
		t.Fatalf("what was told first is now %+v, %+v, %+v", p, s, jobs)
	}
	if !same(api.Plan{Jobs: []api.Job{hand}}, api.Plan{Jobs: good(t).Jobs[3:4]}) {
		t.Fatalf("the job that was at hand is now %+v", hand)
	}
}

// P16.4: a state that is handed in stays as it is, its spare room too, and is not kept.
func TestStateHandedInIsNotKept(t *testing.T) {
	p := roomy(good(t))
	before := whole(p)
	a, b := loaded(t, p), loaded(t, p)
	for i, c := range busy() {
		a.Do(1000+100*i, c)
	}
	if !same(whole(p), before) {
		t.Fatalf("what was handed in is now %+v", whole(p))
	}
	checkSave(t, b, good(t))
	spoil(p)
	checkSave(t, b, good(t))
	want := loaded(t, good(t))
	for i, c := range busy() {
		want.Do(1000+100*i, c)
	}
	checkSave(t, a, want.Save())
}

// P16.4: a command that is handed in stays as it is, and is not kept.
func TestCommandHandedInIsNotKept(t *testing.T) {
	b := made(t)
	c := submit(1, newTable("x"))
	c.Ddl.Columns = stretch(c.Ddl.Columns, api.Column{Id: 99})
	checkDo(t, b, 5, c, api.Result{Job: 1, New: true})
	checkDo(t, b, 5, submit(2, newTable("y")), api.Result{Job: 2, New: true})
	all := c.Ddl.Columns[:5]
	for i, want := range []api.Column{column("a", api.Int), column("b", api.Text), {Id: 99}, {Id: 99}, {Id: 99}} {
		if all[i] != want {
			t.Fatalf("what was handed in is now %+v", all)
		}
	}
	fill(all, api.Column{Name: "spoilt"})
	checkJob(t, b, api.Job{Id: 1, Call: 101, By: tid(1), Ddl: newTable("x")})
	want := turned(t, b.Schema(), newTable("x"), api.Public)
	checkDo(t, b, 5, goes(1, 0), at(7))
	if !same(api.Plan{Schema: b.Schema()}, api.Plan{Schema: want}) {
		t.Fatalf("the schema is %+v, not %+v", b.Schema(), want)
	}
}
