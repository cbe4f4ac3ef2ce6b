package work_test

import (
	"math"
	"reflect"
	"testing"

	"lintel/api"
	"lintel/board"
	"lintel/schema"
	"lintel/wire"
	"lintel/work"
)

func column(name string) api.Column { return api.Column{Name: name, Kind: api.Int} }

func newTable(name string) api.Ddl {
	return api.Ddl{Kind: api.AddTable, Table: name, Columns: []api.Column{column("a"), column("b"), column("c")}}
}

// changes answers a change of each kind.
func changes() []api.Ddl {
	return []api.Ddl{
		newTable("t"),
		{Kind: api.AddIndex, Table: "t", Name: "i", Column: "b"},
		{Kind: api.AddColumn, Table: "t", Column: "d", Type: api.Int},
		{Kind: api.AddForeign, Table: "t", Name: "f", Column: "b", Parent: "t"},
		{Kind: api.DropIndex, Table: "t", Name: "i"},
		{Kind: api.DropColumn, Table: "t", Column: "d"},
		{Kind: api.DropForeign, Table: "t", Name: "f"},
	}
}

func load(t *testing.T, p api.Plan) *board.Board {
	t.Helper()
	b, err := board.Load(p)
	if err != api.OK {
		t.Fatalf("Load(%+v): %d", p, err)
	}
	return b
}

// checkAsk looks at what the board is told next, and that asking changes nothing in it.
func checkAsk(t *testing.T, b *board.Board, now int, want api.Command, wantOk bool) {
	t.Helper()
	before := wire.PutPlan(b.Save())
	got, ok := work.Ask(b, now)
	if !reflect.DeepEqual(got, want) || ok != wantOk {
		t.Fatalf("Ask at %d of %+v: %+v, %t, not %+v, %t", now, b.Save(), got, ok, want, wantOk)
	}
	if wire.PutPlan(b.Save()) != before {
		t.Fatal("Ask has changed the board")
	}
}

// asked answers what the board of a plan is told by the chapter's words, its job at hand being the one at that place.
func asked(p api.Plan, at, now int) (api.Command, bool) {
	j := p.Jobs[at]
	kind := schema.Path(j.Ddl, j.Back)[j.Phase].Kind
	to := api.Command{Kind: api.Go, Job: j.Id, Phase: j.Phase}
	below := p.Schema.Version
	if kind == api.Fill || kind == api.Sweep {
		return api.Command{}, false
	}
	if kind == api.Still {
		below = p.Schema.Version + 1
		if !j.Drain {
			to.Kind = api.Drain
			return to, true
		}
	}
	for _, l := range p.Leases {
		if l.Version < below && l.Until+3 >= now {
			return api.Command{}, false
		}
	}
	return to, true
}

// P23.1: each move of each kind of change, on and back, draining or not, with leases on each version next to the schema's, at the clocks around their ends.
func TestAskAtEachMove(t *testing.T) {
	got := map[int]int{}
	for _, d := range changes() {
		for _, back := range []bool{false, true} {
			for phase := range schema.Path(d, back) {
				for _, drain := range []bool{false, true} {
					for _, version := range []int{6, 7, 8, 9, 10} {
						p := api.Plan{Schema: api.Schema{Version: 8}, Leases: []api.Lease{{Node: 1, Version: version, Until: 40}, {Node: 2, Version: 12, Until: 99}}}
						p.Jobs = []api.Job{{Id: 1, By: api.Tid{Seq: 5}, Call: 7, Ddl: d, Phase: phase, Back: back, Drain: drain, Mark: "m", Why: api.ErrTwice}}
						for _, now := range []int{math.MinInt, -1, 0, 39, 40, 42, 43, 44, 45, 101, 102, 103, math.MaxInt} {
							want, ok := asked(p, 0, now)
							checkAsk(t, load(t, p), now, want, ok)
							got[want.Kind]++
						}
					}
				}
			}
		}
	}
	if got[0] < 200 || got[api.Go] < 200 || got[api.Drain] < 50 {
		t.Fatalf("asked for %v", got)
	}
}

// P23.1: the job at hand is the first one that is Running, whatever the others are.
func TestAskOfJobAtHand(t *testing.T) {
	list := changes()
	var p api.Plan
	for i := range 6 {
		// One that adds a column stands at its Still, draining.
		p.Jobs = append(p.Jobs, api.Job{Id: i + 1, By: api.Tid{Seq: i}, Ddl: list[2], Phase: 4, Drain: true})
	}
	p.Jobs[0].End, p.Jobs[1].End, p.Jobs[2].End = api.Done, api.Refused, api.Undone
	p.Jobs[2].Back, p.Jobs[2].Phase = true, 1
	checkAsk(t, load(t, p), 5, api.Command{Kind: api.Go, Job: 4, Phase: 4}, true)
	p.Jobs[3].Drain = false
	checkAsk(t, load(t, p), 5, api.Command{Kind: api.Drain, Job: 4, Phase: 4}, true)
	// While that one fills, those behind it wait.
	p.Jobs[3].Phase = 3
	checkAsk(t, load(t, p), 5, api.Command{}, false)
	p.Jobs[3].End = api.Refused
	checkAsk(t, load(t, p), 5, api.Command{Kind: api.Go, Job: 5, Phase: 4}, true)
	p.Jobs[4].End, p.Jobs[5].End = api.Done, api.Done
	checkAsk(t, load(t, p), 5, api.Command{}, false)
}

// P23.1: without a job there is no command, nor of a nil board.
func TestAskOfNothing(t *testing.T) {
	for _, now := range []int{math.MinInt, -1, 0, 5, math.MaxInt} {
		for _, b := range []*board.Board{nil, board.New(), {}} {
			if c, ok := work.Ask(b, now); ok || !reflect.DeepEqual(c, api.Command{}) {
				t.Fatalf("%+v, %t", c, ok)
			}
		}
	}
	b := board.New()
	b.Do(5, api.Command{Kind: api.Grant})
	checkAsk(t, b, 500, api.Command{}, false)
}

// P23.1: Version and 1 is one more also at the greatest Version.
func TestAskAtLastVersion(t *testing.T) {
	p := api.Plan{Schema: api.Schema{Version: 1 << 50}, Leases: []api.Lease{{Version: 1 << 50, Until: 9}}}
	p.Jobs = []api.Job{{Id: 1, Ddl: changes()[5], Drain: true}}
	checkAsk(t, load(t, p), 12, api.Command{}, false)
	checkAsk(t, load(t, p), 13, api.Command{Kind: api.Go, Job: 1}, true)
	p.Jobs[0].Drain, p.Jobs[0].Phase = false, 1
	checkAsk(t, load(t, p), 12, api.Command{Kind: api.Go, Job: 1, Phase: 1}, true)
}

// P23.1: what is asked for isn't refused, and what isn't would be; so, asked again and again, all changes come to their ends.
func TestAskBringsChangesOn(t *testing.T) {
	b := board.New()
	now := 0
	for i, d := range changes() {
		b.Do(now, api.Command{Kind: api.Submit, By: api.Tid{Seq: i}, Ddl: d})
		for n := 0; b.Jobs()[i].End == api.Running; n++ {
			if n > 400 {
				t.Fatalf("%+v doesn't end: %+v", d, b.Jobs()[i])
			}
			// A node that asks for leases all the time holds up what it must, and nothing for ever.
			if n%2 == 0 {
				b.Do(now, api.Command{Kind: api.Grant, By: api.Tid{Node: 1}})
			}
			step(t, b, now)
			now++
		}
		if j := b.Jobs()[i]; j.End != api.Done || j.Why != api.OK {
			t.Fatalf("%+v: %+v", d, j)
		}
	}
}

// step tells the board what is asked for; of a Fill and a Sweep that it is over.
func step(t *testing.T, b *board.Board, now int) {
	t.Helper()
	j, m, _ := b.Hand()
	c, ok := work.Ask(b, now)
	if ok {
		if r := b.Do(now, c); r.Err != api.OK || !r.New {
			t.Fatalf("%+v at %d, of %+v: %+v", c, now, j, r)
		}
		return
	}
	to := api.Command{Kind: api.Go, Job: j.Id, Phase: j.Phase}
	want := api.ErrEarly
	if m.Kind == api.Fill || m.Kind == api.Sweep {
		want = api.ErrTurn
	}
	if r := b.Do(now, to); r.Err != want {
		t.Fatalf("nothing is asked for at %d, of %+v, but it would be answered %+v", now, j, r)
	}
	if want == api.ErrTurn {
		b.Do(now, api.Command{Kind: api.Mark, Job: j.Id, Phase: j.Phase, Version: 1})
	}
}
