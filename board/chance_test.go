package board_test

import (
	"fmt"
	"math/rand"
	"slices"
	"strconv"
	"testing"

	"lintel/api"
	"lintel/board"
	"lintel/schema"
)

// sketch is a board of the simplest kind: a state, that each command looks through from the front.
type sketch struct {
	api.Plan
}

func (k *sketch) hand() (int, api.Move) {
	for i, j := range k.Jobs {
		if j.End == api.Running {
			return i, schema.Path(j.Ddl, j.Back)[j.Phase]
		}
	}
	return -1, api.Move{}
}

func (k *sketch) count(is func(api.Lease) bool) int {
	n := 0
	for _, l := range k.Leases {
		if is(l) {
			n++
		}
	}
	return n
}

// pass brings the job at a place behind its move.
func (k *sketch) pass(i int) {
	j := &k.Jobs[i]
	j.Phase, j.Mark = j.Phase+1, ""
	switch {
	case j.Phase < len(schema.Path(j.Ddl, j.Back)):
	case j.Back:
		j.End = api.Undone
	default:
		j.End = api.Done
	}
}

func (k *sketch) do(at int, c api.Command) api.Result {
	if at < 0 || at > 1<<50 || c.Kind < api.Grant || c.Kind > api.Fail {
		return api.Result{Err: api.ErrArg}
	}
	i, m := k.hand()
	switch c.Kind {
	case api.Grant:
		return k.grant(i, at, c)
	case api.Submit:
		return k.submit(c)
	}
	if i < 0 || c.Job != i+1 || c.Phase != k.Jobs[i].Phase {
		return api.Result{Err: api.ErrTurn}
	}
	j, rows := &k.Jobs[i], m.Kind == api.Fill || m.Kind == api.Sweep
	switch {
	case c.Kind == api.Drain && m.Kind == api.Still:
		was := j.Drain
		j.Drain = true
		return api.Result{New: !was}
	case c.Kind == api.Go && !rows && (m.Kind != api.Still || j.Drain):
		return k.turn(i, m, at)
	case c.Kind == api.Mark && rows && c.Version == 1:
		k.pass(i)
		return api.Result{New: true}
	case c.Kind == api.Mark && rows:
		if c.Mark > j.Mark {
			j.Mark = c.Mark
		}
		return api.Result{New: true}
	case c.Kind == api.Fail && m.Kind == api.Fill && !j.Back:
		j.Back, j.Phase, j.Mark, j.Why = true, 0, "", c.Why
		return api.Result{New: true}
	}
	return api.Result{Err: api.ErrTurn}
}

func (k *sketch) grant(i, at int, c api.Command) api.Result {
	if i >= 0 && k.Jobs[i].Drain {
		return api.Result{Err: api.ErrDrain}
	}
	var stay []api.Lease
	for _, l := range k.Leases {
		if l.Until+3 >= at && (l.Node != c.By.Node || l.Version != k.Schema.Version) {
			stay = append(stay, l)
		}
	}
	k.Leases = append(stay, api.Lease{Node: c.By.Node, Version: k.Schema.Version, Until: at + 20})
	return api.Result{Version: k.Schema.Version, Until: at + 20, New: true}
}

func (k *sketch) submit(c api.Command) api.Result {
	if c.Ddl.Kind < 1 || c.Ddl.Kind > 7 {
		return api.Result{Err: api.ErrArg}
	}
	running := 0
	for _, j := range k.Jobs {
		if j.By == c.By {
			return api.Result{Job: j.Id}
		}
		if j.End == api.Running {
			running++
		}
	}
	j := api.Job{Id: len(k.Jobs) + 1, Call: c.Call, By: c.By, Ddl: c.Ddl}
	if running >= 4 {
		j.End, j.Why = api.Refused, api.ErrMany
	}
	k.Jobs = append(k.Jobs, j)
	return api.Result{Job: j.Id, New: true}
}

func (k *sketch) turn(i int, m api.Move, at int) api.Result {
	j := &k.Jobs[i]
	old := k.count(func(l api.Lease) bool { return l.Version < k.Schema.Version && l.Until+3 >= at })
	now := k.count(func(l api.Lease) bool { return l.Version == k.Schema.Version && l.Until+3 >= at })
	if old > 0 || now > 0 && m.Kind == api.Still {
		return api.Result{Err: api.ErrEarly}
	}
	if m.Kind != api.Wait {
		next, err := schema.Turn(k.Schema, j.Ddl, m.State)
		if err != api.OK {
			j.End, j.Why, j.Drain = api.Refused, err, false
			return api.Result{New: true}
		}
		k.Schema = next
	}
	j.Drain = false
	k.pass(i)
	return api.Result{Version: k.Schema.Version, New: true}
}

// game is a board, its sketch, a clock that only goes on, and what there was.
type game struct {
	t     *testing.T
	r     *rand.Rand
	b     *board.Board
	k     *sketch
	at    int
	still bool // was the schema turned last by a Still?
	seen  map[string]int
}

// change answers a change, of few names, so that some are refused, and others aren't.
func (x *game) change() api.Ddl {
	pick := func(list ...string) string { return list[x.r.Intn(len(list))] }
	table := pick("t", "t", "u")
	switch kind := 1 + x.r.Intn(7); kind {
	case api.AddTable:
		d := newTable(pick("t", "u", "v", "w"))
		d.Columns = d.Columns[:1+x.r.Intn(2)]
		return d
	case api.AddIndex:
		return api.Ddl{Kind: kind, Table: table, Name: pick("i", "j"), Column: pick("a", "b", "c"), Unique: x.r.Intn(2) == 0}
	case api.AddColumn:
		return api.Ddl{Kind: kind, Table: table, Column: pick("b", "c", "d"), Type: 1 + x.r.Intn(2)}
	case api.AddForeign:
		return api.Ddl{Kind: kind, Table: table, Name: pick("f", "g"), Column: "a", Parent: pick("t", "u")}
	default:
		return api.Ddl{Kind: kind, Table: table, Name: pick("i", "j", "f", "g"), Column: pick("b", "c", "d")}
	}
}

// command answers a command, most of them about the job at hand as it stands.
func (x *game) command() api.Command {
	c := api.Command{
		Kind: 11 + x.r.Intn(6), By: api.Tid{Node: x.r.Intn(3), Seq: x.r.Intn(len(x.k.Jobs) + 3)}, Call: x.r.Intn(9),
		Mark: strconv.Itoa(x.r.Intn(30)), Why: []api.Errno{api.ErrTwice, api.ErrParent}[x.r.Intn(2)], Version: x.r.Intn(3),
	}
	if c.Kind == api.Submit && x.r.Intn(3) > 0 {
		c.Kind = api.Go
	}
	if c.Kind == api.Submit {
		c.Ddl = x.change()
		if x.r.Intn(40) == 0 {
			c.Ddl.Kind = 0
		}
	}
	if i, m := x.k.hand(); i >= 0 {
		c.Job, c.Phase = i+1, x.k.Jobs[i].Phase
		if x.r.Intn(3) == 0 && c.Kind != api.Submit {
			c.Kind = map[int]int{api.Fill: api.Mark, api.Sweep: api.Mark}[m.Kind]
			if c.Kind == 0 {
				c.Kind = api.Go
			}
		}
	}
	switch x.r.Intn(20) {
	case 0:
		c.Job += x.r.Intn(3) - 1
	case 1:
		c.Phase += x.r.Intn(3) - 1
	case 2:
		c.Kind = x.r.Intn(20) - 1
	}
	return c
}

func (x *game) step() {
	at, c := x.at, x.command()
	if x.r.Intn(60) == 0 {
		at = []int{-1, 1<<50 + 1}[x.r.Intn(2)]
	}
	before := copyOf(x.k.Plan)
	_, m := x.k.hand()
	want := x.k.do(at, c)
	checkDo(x.t, x.b, at, c, want)
	checkSave(x.t, x.b, x.k.Plan)
	if want.Err != api.OK {
		checkSave(x.t, x.b, before)
	}
	if x.k.Schema.Version > before.Schema.Version {
		x.still = m.Kind == api.Still
	}
	x.look(before)
	x.again(at, c)
	x.seen[fmt.Sprint(c.Kind, want.Err, want.New, want.Version > before.Schema.Version)]++
}

// look looks at what must hold, whatever happens (P16.3), and at what Hand and Clear tell.
func (x *game) look(before api.Plan) {
	x.t.Helper()
	v := x.k.Schema.Version
	for _, l := range x.b.Save().Leases {
		if l.Until+api.Skew < x.at {
			continue
		}
		if l.Version != v && (l.Version != v-1 || x.still) {
			x.t.Fatalf("at %d the lease %+v may be in force, the version being %d (behind a Still: %v)", x.at, l, v, x.still)
		}
		x.seen["lease on "+strconv.Itoa(l.Version-v)+" behind a Still: "+strconv.FormatBool(x.still)]++
	}
	jobs := x.b.Jobs()[:len(before.Jobs)]
	for i, j := range before.Jobs {
		x.seen["end "+strconv.Itoa(j.End)+" to "+strconv.Itoa(jobs[i].End)]++
		if j.End == api.Running {
			jobs[i] = j
		}
	}
	if !same(api.Plan{Jobs: jobs}, api.Plan{Jobs: before.Jobs}) {
		x.t.Fatalf("jobs that were over are otherwise now: %+v, not %+v", jobs, before.Jobs)
	}
	i, m := x.k.hand()
	if i < 0 {
		checkNoHand(x.t, x.b)
	} else {
		checkHand(x.t, x.b, x.k.Jobs[i], m, true)
	}
	when, below := x.at+x.r.Intn(30)-10, v+x.r.Intn(4)-1
	checkClear(x.t, x.b, when, below, x.k.count(func(l api.Lease) bool { return l.Version < below && l.Until+3 >= when }) == 0)
}

// again looks at a command that comes again: it does nothing more.
func (x *game) again(at int, c api.Command) {
	x.t.Helper()
	got := x.b.Do(at, c)
	checkSave(x.t, x.b, x.k.Plan)
	if got.New && c.Kind != api.Grant && c.Kind != api.Mark {
		x.t.Fatalf("Do(%d, %+v) again: %+v", at, c, got)
	}
}

// P16.1 to P16.3: commands of all kinds, mixed, are answered as by the sketch, and what must hold does; now and then a board is loaded from what it saved.
func TestAsTheSketch(t *testing.T) {
	seen := map[string]int{}
	for seed := range int64(40) {
		x := &game{t: t, r: rand.New(rand.NewSource(seed)), b: board.New(), k: &sketch{}, seen: seen}
		for range 500 {
			x.step()
			x.at += x.r.Intn(3) * x.r.Intn(6)
			if x.r.Intn(20) == 0 {
				x.b = loaded(t, x.b.Save())
			}
		}
	}
	checkSeen(t, seen)
}

// checkSeen looks whether there was something of all that may happen: kind, error, new, the next version.
func checkSeen(t *testing.T, seen map[string]int) {
	t.Helper()
	for _, what := range []string{
		"11 0 true false", "11 162 false false", "12 0 true false", "12 0 false false", "12 1 false false",
		"13 0 true false", "13 0 false false", "13 160 false false",
		"14 0 true true", "14 0 true false", "14 160 false false", "14 161 false false",
		"15 0 true false", "15 160 false false", "16 0 true false", "16 160 false false", "0 1 false false",
		"end 0 to 1", "end 0 to 2", "end 0 to 3",
		"lease on 0 behind a Still: true", "lease on 0 behind a Still: false", "lease on -1 behind a Still: false",
	} {
		if seen[what] < 20 {
			t.Errorf("this was seen %d times: kind, error, new, another version: %s; all of it: %v", seen[what], what, seen)
		}
	}
	for what := range seen {
		if slices.Contains([]string{"end 1 to 0", "end 2 to 0", "end 3 to 0", "end 1 to 2", "end 1 to 3", "end 2 to 1", "end 2 to 3", "end 3 to 1", "end 3 to 2"}, what) {
			t.Errorf("a job has ended twice: %s", what)
		}
	}
}

// P16.1, P16.2: many jobs are found in good time, and those that are over are in nobody's way.
func TestManyJobs(t *testing.T) {
	const many = 20000
	b := board.New()
	d := dropIndex("no")
	for i := 1; i <= many; i++ {
		checkDo(t, b, 1, submit(i, d), api.Result{Job: i, New: true})
		checkMove(t, b, i, 0, bump(api.WriteOnly))
		checkDo(t, b, 1, goes(i, 0), isNew)
	}
	checkNoHand(t, b)
	b = loaded(t, b.Save())
	for i := 1; i <= many; i++ {
		checkDo(t, b, 1, submit(i, d), api.Result{Job: i})
	}
	checkJob(t, b, api.Job{Id: many, Call: 100 + many, By: tid(many), Ddl: d, End: api.Refused, Why: api.ErrTable})
}
