package board_test

import (
	"math"
	"slices"
	"testing"

	"lintel/api"
	"lintel/board"
)

// good answers a state with something of each kind.
func good(t *testing.T) api.Plan {
	t.Helper()
	s := turned(t, turned(t, rich(t), newIndex("j"), api.DeleteOnly), newIndex("j"), api.WriteOnly)
	return api.Plan{
		Schema: s,
		Leases: []api.Lease{{Node: 3, Version: 8, Until: 70}, {Node: 1, Version: 7, Until: 55}, {Node: 3, Version: 7, Until: 0}},
		Jobs: []api.Job{
			{Id: 1, Call: 5, By: tid(4), Ddl: newTable("t"), Phase: 1, End: api.Done},
			{Id: 2, Call: -5, By: tid(3), Ddl: newTable("t"), End: api.Refused, Why: api.ErrThere},
			{Id: 3, Call: 0, By: tid(2), Ddl: newColumn("x"), Phase: 2, Back: true, End: api.Undone, Why: api.ErrTwice},
			{Id: 4, Call: 9, By: tid(1), Ddl: newIndex("j"), Phase: 3, Mark: "m\x00"},
			{Id: 5, Call: 9, By: api.Tid{}, Ddl: newTable("y"), End: api.Refused, Why: api.ErrMany},
			{Id: 6, Call: 7, By: tid(6), Ddl: dropColumn("c"), Drain: true},
		},
	}
}

// P16.2: a board that was loaded has just this state, and goes on from it.
func TestLoadGoesOn(t *testing.T) {
	b := loaded(t, good(t))
	checkSave(t, b, good(t))
	checkHand(t, b, good(t).Jobs[3], plain(api.Fill), true)
	for i, j := range good(t).Jobs {
		checkIdle(t, b, 5, api.Command{Kind: api.Submit, By: j.By, Ddl: newTable("x")}, api.Result{Job: i + 1})
	}
	checkClear(t, b, 58, 8, false)
	checkClear(t, b, 59, 8, true)
	checkRefused(t, b, 5, mark(6, 0, "x"), api.ErrTurn)
	checkDo(t, b, 5, mark(4, 3, "m"), isNew)
	checkJob(t, b, good(t).Jobs[3])
	checkDo(t, b, 5, over(4, 3), isNew)
	checkRefused(t, b, 58, goes(4, 4), api.ErrEarly)
	checkDo(t, b, 59, goes(4, 4), at(9))
	checkHand(t, b, good(t).Jobs[5], still(api.WriteOnly), true)
	checkRefused(t, b, 59, grant(1), api.ErrDrain)
	checkIdle(t, b, 59, drain(6, 0), api.Result{})
	checkRefused(t, b, 73, goes(6, 0), api.ErrEarly)
	checkDo(t, b, 74, goes(6, 0), at(10))
	checkDo(t, b, 74, submit(77, newTable("x")), api.Result{Job: 7, New: true})
	checkDo(t, b, 74, grant(1), leased(10, 94))
	want := good(t)
	want.Schema = turned(t, turned(t, want.Schema, newIndex("j"), api.Public), dropColumn("c"), api.WriteOnly)
	want.Leases = []api.Lease{{Node: 1, Version: 10, Until: 94}}
	want.Jobs[3].Phase, want.Jobs[3].Mark, want.Jobs[3].End = 5, "", api.Done
	want.Jobs[5].Phase, want.Jobs[5].Drain = 1, false
	want.Jobs = append(want.Jobs, api.Job{Id: 7, Call: 177, By: tid(77), Ddl: newTable("x")})
	checkSave(t, b, want)
	checkSave(t, loaded(t, want), want)
}

// P16.2: states that are odd, but that nothing is said against.
func TestLoadTakesWhatIsNotRuledOut(t *testing.T) {
	s := rich(t)
	high := rich(t)
	high.Version, high.Last = 1<<50, 1<<50
	none := api.Ddl{Kind: 99, Columns: []api.Column{{Id: -1}}}
	for _, p := range []api.Plan{
		{},
		{Leases: []api.Lease{}, Jobs: []api.Job{}, Schema: api.Schema{Tables: []api.Table{}}},
		{Schema: high},
		{Leases: []api.Lease{{}, {}, {Node: -1, Version: math.MaxInt, Until: math.MaxInt}, {Node: math.MinInt}}},
		{Schema: s, Leases: []api.Lease{{Version: 1, Until: 9}, {Version: 99, Until: 9}, {Version: 6, Until: 9}, {Version: 6, Until: 9}}},
		{Jobs: []api.Job{{Id: 1, Ddl: none, End: api.Done}, {Id: 2, By: tid(1), Ddl: none, End: api.Undone}, {Id: 3, By: tid(2), Ddl: none, End: api.Refused, Back: true}}},
		{Jobs: []api.Job{{Id: 1, Ddl: newTable("t"), Back: true, End: api.Undone}, {Id: 2, By: tid(1), Ddl: dropColumn("t"), Back: true, End: api.Done}}},
		{Jobs: []api.Job{{Id: 1, Ddl: newTable("t"), Drain: true, Mark: "x", Why: -9, Call: math.MinInt}}},
		{Jobs: []api.Job{{Id: 1, Ddl: newIndex("No such"), Phase: 5, End: api.Undone}, {Id: 2, By: tid(1), Ddl: newIndex(""), Phase: 0, End: api.Done}}},
	} {
		checkSave(t, loaded(t, p), p)
	}
}

// checkNoLoad looks at what Load answers to a state that may not be.
func checkNoLoad(t *testing.T, what string, p api.Plan) {
	t.Helper()
	if b, err := board.Load(p); b != nil || err != api.ErrForm {
		t.Errorf("%s: Load(%+v): %v, %d, not nil, ErrForm", what, p, b, err)
	}
}

// P16.2: schemas that aren't right.
func TestLoadWrongSchemas(t *testing.T) {
	for what, spoil := range map[string]func(*api.Schema){
		"a version below 0":    func(s *api.Schema) { s.Version = -1 },
		"too great a version":  func(s *api.Schema) { s.Version = 1<<50 + 1 },
		"Last is too low":      func(s *api.Schema) { s.Last-- },
		"no name":              func(s *api.Schema) { s.Tables[0].Name = "" },
		"a name twice":         func(s *api.Schema) { s.Tables[0].Name = s.Tables[1].Name },
		"no columns":           func(s *api.Schema) { s.Tables[1].Columns = nil },
		"a state that is none": func(s *api.Schema) { s.Tables[0].Indexes[0].State = 0 },
		"an id twice":          func(s *api.Schema) { s.Tables[0].Id = s.Tables[1].Id },
		"another kind":         func(s *api.Schema) { s.Tables[0].Columns[2].Kind = api.Null },
	} {
		p := good(t)
		spoil(&p.Schema)
		checkNoLoad(t, what, p)
		checkNoLoad(t, what+", alone", api.Plan{Schema: p.Schema})
	}
}

// P16.2: Ids are places from 1 on.
func TestLoadWrongIds(t *testing.T) {
	for i := range good(t).Jobs {
		for _, id := range []int{0, -1, i, i + 2, math.MinInt, math.MaxInt} {
			p := good(t)
			p.Jobs[i].Id = id
			checkNoLoad(t, "an Id", p)
		}
	}
	p := good(t)
	p.Jobs[2], p.Jobs[3] = p.Jobs[3], p.Jobs[2]
	checkNoLoad(t, "two jobs in each other's place", p)
	p = good(t)
	p.Jobs = p.Jobs[1:]
	checkNoLoad(t, "no first job", p)
}

// P16.2: two jobs of one who asked.
func TestLoadTwoOfOne(t *testing.T) {
	for i := range good(t).Jobs {
		for j := range good(t).Jobs {
			if p := good(t); i != j {
				p.Jobs[i].By = p.Jobs[j].By
				checkNoLoad(t, "one asked twice", p)
			}
		}
	}
	p := good(t)
	p.Jobs = append(p.Jobs, p.Jobs[0])
	p.Jobs[6].Id = 7
	checkNoLoad(t, "a job twice", p)
}

// P16.2: which Phases and Ends may be, of all kinds of changes, both ways.
func TestLoadPhasesAndEnds(t *testing.T) {
	list := append(ways(), way{d: api.Ddl{}}, way{d: api.Ddl{Kind: -1}}, way{d: api.Ddl{Kind: 8}})
	for _, w := range list {
		for _, back := range []bool{false, true} {
			length := len(w.on)
			if back {
				length = len(w.back)
			}
			for _, end := range []int{math.MinInt, -1, api.Running, api.Done, api.Undone, api.Refused, 4, math.MaxInt} {
				for _, phase := range []int{math.MinInt, -2, -1, 0, 1, 2, 3, 4, 5, 6, math.MaxInt} {
					may := end >= 0 && end <= 3 && phase >= 0 && (phase < length || phase == length && end != api.Running)
					p := api.Plan{Jobs: []api.Job{{Id: 1, Ddl: w.d, Back: back, End: end, Phase: phase}}}
					if !may {
						checkNoLoad(t, "Phase and End", p)
						continue
					}
					checkSave(t, loaded(t, p), p)
				}
			}
		}
	}
}

// P16.2: wherever the job stands of which that is so.
func TestLoadOneWrongJob(t *testing.T) {
	for i := range good(t).Jobs {
		for _, spoil := range []func(*api.Job){
			func(j *api.Job) { j.Phase = 6 }, func(j *api.Job) { j.Phase = -1 }, func(j *api.Job) { j.End = 4 }, func(j *api.Job) { j.End = -1 },
			func(j *api.Job) { j.Ddl.Kind, j.End = 0, api.Running }, func(j *api.Job) { j.Ddl.Kind, j.Phase = 0, 1 },
		} {
			p := good(t)
			spoil(&p.Jobs[i])
			checkNoLoad(t, "a Phase or an End", p)
		}
	}
}

// P16.2: leases below 0.
func TestLoadWrongLeases(t *testing.T) {
	for i := range good(t).Leases {
		for _, n := range []int{-1, math.MinInt} {
			p := good(t)
			p.Leases[i].Version = n
			checkNoLoad(t, "a version below 0", p)
			p = good(t)
			p.Leases[i].Until = n
			checkNoLoad(t, "a time below 0", p)
			p = good(t)
			p.Leases[i].Node = n
			checkSave(t, loaded(t, p), p)
		}
	}
	checkNoLoad(t, "the last lease", api.Plan{Leases: append(slices.Repeat([]api.Lease{{}}, 50), api.Lease{Until: -1})})
}
