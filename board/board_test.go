package board_test

import (
	"math"
	"testing"

	"lintel/api"
	"lintel/board"
	"lintel/schema"
	"lintel/wire"
)

// ends is far behind all leases of these tests.
const ends = 1 << 40

func tid(seq int) api.Tid { return api.Tid{Node: 1, Boot: 2, Seq: seq} }

func column(name string, kind int) api.Column { return api.Column{Name: name, Kind: kind} }

func newTable(name string) api.Ddl {
	return api.Ddl{Kind: api.AddTable, Table: name, Columns: []api.Column{column("a", api.Int), column("b", api.Text)}}
}

func newIndex(name string) api.Ddl {
	return api.Ddl{Kind: api.AddIndex, Table: "t", Name: name, Column: "b"}
}

func newColumn(name string) api.Ddl {
	return api.Ddl{Kind: api.AddColumn, Table: "t", Column: name, Type: api.Int}
}

func newForeign(name string) api.Ddl {
	return api.Ddl{Kind: api.AddForeign, Table: "t", Name: name, Column: "a", Parent: "u"}
}

func dropIndex(name string) api.Ddl {
	return api.Ddl{Kind: api.DropIndex, Table: "t", Name: name}
}

func dropColumn(name string) api.Ddl {
	return api.Ddl{Kind: api.DropColumn, Table: "t", Column: name}
}

func dropForeign(name string) api.Ddl {
	return api.Ddl{Kind: api.DropForeign, Table: "t", Name: name}
}

func grant(node int) api.Command {
	return api.Command{Kind: api.Grant, By: api.Tid{Node: node, Boot: 3, Seq: 4}}
}

func submit(seq int, d api.Ddl) api.Command {
	return api.Command{Kind: api.Submit, By: tid(seq), Call: 100 + seq, Ddl: d}
}

func drain(job, phase int) api.Command {
	return api.Command{Kind: api.Drain, Job: job, Phase: phase}
}

func goes(job, phase int) api.Command { return api.Command{Kind: api.Go, Job: job, Phase: phase} }

func mark(job, phase int, text string) api.Command {
	return api.Command{Kind: api.Mark, Job: job, Phase: phase, Mark: text}
}

func over(job, phase int) api.Command {
	return api.Command{Kind: api.Mark, Job: job, Phase: phase, Mark: "of no meaning", Version: 1}
}

func fail(job, phase int, why api.Errno) api.Command {
	return api.Command{Kind: api.Fail, Job: job, Phase: phase, Why: why}
}

// isNew is what a command is answered that was done now and tells nothing.
var isNew = api.Result{New: true}

// at answers what a Go is answered that was done.
func at(version int) api.Result { return api.Result{Version: version, New: true} }

func leased(version, until int) api.Result {
	return api.Result{Version: version, Until: until, New: true}
}

func checkDo(t *testing.T, b *board.Board, at int, c api.Command, want api.Result) {
	t.Helper()
	if got := b.Do(at, c); got != want {
		t.Fatalf("Do(%d, %+v): %+v, not %+v", at, c, got, want)
	}
}

// checkIdle looks at what a command is answered that may change nothing.
func checkIdle(t *testing.T, b *board.Board, at int, c api.Command, want api.Result) {
	t.Helper()
	before := b.Save()
	checkDo(t, b, at, c, want)
	checkSave(t, b, before)
}

func checkRefused(t *testing.T, b *board.Board, at int, c api.Command, err api.Errno) {
	t.Helper()
	checkIdle(t, b, at, c, api.Result{Err: err})
}

// same tells whether two states are one, nil and empty lists being one: so are their bytes.
func same(a, b api.Plan) bool { return wire.PutPlan(a) == wire.PutPlan(b) }

func copyOf(p api.Plan) api.Plan {
	c, _ := wire.GetPlan(wire.PutPlan(p))
	return c
}

// checkSave looks at the whole state, by all calls that tell some of it.
func checkSave(t *testing.T, b *board.Board, want api.Plan) {
	t.Helper()
	got := b.Save()
	if !same(got, want) {
		t.Fatalf("Save: %+v, not %+v", got, want)
	}
	parts := api.Plan{Schema: b.Schema(), Leases: got.Leases, Jobs: b.Jobs()}
	if !same(parts, want) {
		t.Fatalf("Schema and Jobs: %+v, %+v, not those of %+v", parts.Schema, parts.Jobs, want)
	}
}

func checkHand(t *testing.T, b *board.Board, want api.Job, move api.Move, there bool) {
	t.Helper()
	j, m, ok := b.Hand()
	if !same(api.Plan{Jobs: []api.Job{j}}, api.Plan{Jobs: []api.Job{want}}) || m != move || ok != there {
		t.Fatalf("Hand: %+v, %+v, %v, not %+v, %+v, %v", j, m, ok, want, move, there)
	}
}

// checkMove looks at the Id, the Phase and the move of the job at hand.
func checkMove(t *testing.T, b *board.Board, job, phase int, move api.Move) {
	t.Helper()
	j, m, ok := b.Hand()
	if j.Id != job || j.Phase != phase || m != move || !ok {
		t.Fatalf("Hand: the job %d, the Phase %d, %+v, %v, not %d, %d, %+v", j.Id, j.Phase, m, ok, job, phase, move)
	}
}

func checkNoHand(t *testing.T, b *board.Board) {
	t.Helper()
	checkHand(t, b, api.Job{}, api.Move{}, false)
}

// checkJob looks at how a job stands.
func checkJob(t *testing.T, b *board.Board, want api.Job) {
	t.Helper()
	got := b.Jobs()[want.Id-1]
	if !same(api.Plan{Jobs: []api.Job{got}}, api.Plan{Jobs: []api.Job{want}}) {
		t.Fatalf("the job is %+v, not %+v", got, want)
	}
}

func checkLeases(t *testing.T, b *board.Board, want ...api.Lease) {
	t.Helper()
	p := b.Save()
	if got := p.Leases; !same(api.Plan{Leases: got}, api.Plan{Leases: want}) {
		t.Fatalf("the leases are %+v, not %+v", got, want)
	}
}

func checkClear(t *testing.T, b *board.Board, at, below int, want bool) {
	t.Helper()
	if got := b.Clear(at, below); got != want {
		t.Fatalf("Clear(%d, %d): %v, not %v", at, below, got, want)
	}
}

func turned(t *testing.T, s api.Schema, d api.Ddl, state int) api.Schema {
	t.Helper()
	next, err := schema.Turn(s, d, state)
	if err != api.OK {
		t.Fatalf("Turn(%+v, %d): %d", d, state, err)
	}
	return next
}

// rich answers the schema of most of these tests: the tables t, with the columns a, b, c and d, the index i over b and the foreign key f from a, and u; Version 6.
func rich(t *testing.T) api.Schema {
	t.Helper()
	s := turned(t, api.Schema{}, newTable("t"), api.Public)
	s = turned(t, s, newTable("u"), api.Public)
	for _, d := range []api.Ddl{newColumn("c"), newColumn("d"), newIndex("i"), newForeign("f")} {
		s = turned(t, s, d, api.Public)
	}
	return s
}

func loaded(t *testing.T, p api.Plan) *board.Board {
	t.Helper()
	b, err := board.Load(p)
	if err != api.OK {
		t.Fatalf("Load(%+v): %d", p, err)
	}
	return b
}

// made answers a board with the rich schema, no leases, and no jobs.
func made(t *testing.T) *board.Board {
	t.Helper()
	return loaded(t, api.Plan{Schema: rich(t)})
}

// P16.1: the chapter's examples, and the seventh one of the whole.
func TestExamples(t *testing.T) {
	b := board.New()
	checkDo(t, b, 5, grant(2), leased(0, 25))
	checkDo(t, b, 5, submit(1, newTable("t")), api.Result{Job: 1, New: true})
	checkDo(t, b, 6, goes(1, 0), at(1))
	checkJob(t, b, api.Job{Id: 1, Call: 101, By: tid(1), Ddl: newTable("t"), Phase: 1, End: api.Done})
	checkDo(t, b, 6, submit(2, newIndex("i")), api.Result{Job: 2, New: true})
	checkRefused(t, b, 7, goes(2, 0), api.ErrEarly)
	checkRefused(t, b, 28, goes(2, 0), api.ErrEarly)
	checkDo(t, b, 29, goes(2, 0), at(2))
}

// P16.1
func TestNew(t *testing.T) {
	for _, b := range []*board.Board{board.New(), {}, loaded(t, api.Plan{})} {
		checkSave(t, b, api.Plan{})
		checkNoHand(t, b)
		checkClear(t, b, 0, math.MaxInt, true)
		for job := -1; job <= 1; job++ {
			for _, c := range []api.Command{drain(job, 0), goes(job, 0), mark(job, 0, "x"), over(job, 0), fail(job, 0, api.ErrTwice)} {
				checkRefused(t, b, 3, c, api.ErrTurn)
			}
		}
		checkDo(t, b, 0, submit(1, newTable("t")), api.Result{Job: 1, New: true})
		checkDo(t, b, 0, grant(1), leased(0, 20))
		checkDo(t, b, 0, goes(1, 0), at(1))
		checkSave(t, b, api.Plan{
			Schema: turned(t, api.Schema{}, newTable("t"), api.Public),
			Leases: []api.Lease{{Node: 1, Until: 20}},
			Jobs:   []api.Job{{Id: 1, Call: 101, By: tid(1), Ddl: newTable("t"), Phase: 1, End: api.Done}},
		})
	}
}

// P16.1: two boards never meet.
func TestBoardsAreApart(t *testing.T) {
	a, b := board.New(), board.New()
	a.Do(1, grant(1))
	a.Do(1, submit(1, newTable("t")))
	a.Do(1, goes(1, 0))
	checkSave(t, b, api.Plan{})
}

// P16.1: clocks from 0 to 2^50, and kinds.
func TestClocksAndKinds(t *testing.T) {
	b := made(t)
	b.Do(0, submit(1, newIndex("j")))
	for _, c := range []api.Command{grant(1), submit(1, newIndex("j")), submit(2, newTable("x")), goes(1, 0), drain(1, 0), {}} {
		for _, when := range []int{-1, math.MinInt, 1<<50 + 1, math.MaxInt} {
			checkRefused(t, b, when, c, api.ErrArg)
		}
	}
	for _, kind := range []int{
		0, api.Prepare, api.Commit, api.Abort, api.Resolve, 5, 10, 17, -11, 256 + api.Grant, math.MinInt, math.MaxInt,
	} {
		checkRefused(t, b, 5, api.Command{Kind: kind, By: tid(9), Job: 1, Ddl: newTable("x")}, api.ErrArg)
	}
	checkDo(t, b, 0, grant(1), leased(6, 20))
	checkDo(t, b, 1<<50, grant(1), leased(6, 1<<50+20))
	checkDo(t, b, 1<<50, goes(1, 0), at(7))
}

// P16.4
func TestNil(t *testing.T) {
	var b *board.Board
	checkSave(t, b, api.Plan{})
	checkNoHand(t, b)
	for _, when := range []int{0, 5, -1, math.MinInt, math.MaxInt} {
		checkClear(t, b, when, 0, true)
		checkClear(t, b, when, math.MaxInt, true)
		for kind := range 20 {
			checkDo(t, b, when, api.Command{Kind: kind, Ddl: newTable("t")}, api.Result{Err: api.ErrNil})
		}
	}
}

// P16.1: all fields of a command that its kind doesn't name are let be.
func TestFieldsOfNoMeaning(t *testing.T) {
	rest := api.Command{
		Txn: tid(8), Home: 7, Reads: []api.Read{{}}, Writes: []api.Write{{Key: "k"}}, Min: 9, Until: 9, Ts: 9,
	}
	full := func(c api.Command) api.Command {
		c.Txn, c.Home, c.Reads, c.Writes, c.Min, c.Until, c.Ts = rest.Txn, rest.Home, rest.Reads, rest.Writes, rest.Min, rest.Until, rest.Ts
		return c
	}
	b := made(t)
	c := full(submit(1, newIndex("j")))
	c.Version, c.Job, c.Phase, c.Mark, c.Why = 1, 9, 9, "m", api.ErrTwice
	checkDo(t, b, 5, c, api.Result{Job: 1, New: true})
	checkJob(t, b, api.Job{Id: 1, Call: 101, By: tid(1), Ddl: newIndex("j")})
	c = full(grant(2))
	c.Version, c.Call, c.Ddl, c.Job, c.Phase, c.Mark, c.Why = 3, 9, newTable("x"), 1, 4, "m", api.ErrTwice
	checkDo(t, b, 5, c, leased(6, 25))
	for phase := range 3 {
		c = full(goes(1, phase))
		c.By, c.Version, c.Call, c.Ddl, c.Mark, c.Why = tid(7), 9, 9, newTable("x"), "m", api.ErrTwice
		checkDo(t, b, 50, c, at(min(7+phase, 8)))
	}
	c = full(mark(1, 3, "m"))
	c.By, c.Version, c.Call, c.Ddl, c.Why = tid(7), 2, 9, newTable("x"), api.ErrTwice
	checkDo(t, b, 50, c, isNew)
	checkJob(t, b, api.Job{Id: 1, Call: 101, By: tid(1), Ddl: newIndex("j"), Phase: 3, Mark: "m"})
	c = full(fail(1, 3, api.ErrTwice))
	c.By, c.Version, c.Call, c.Ddl, c.Mark = tid(7), 1, 9, newTable("x"), "n"
	checkDo(t, b, 50, c, isNew)
	checkJob(t, b, api.Job{Id: 1, Call: 101, By: tid(1), Ddl: newIndex("j"), Back: true, Why: api.ErrTwice})
}
