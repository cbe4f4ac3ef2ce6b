package board_test

import (
	"math"
	"slices"
	"strconv"
	"testing"

	"lintel/api"
	"lintel/board"
)

func bump(state int) api.Move { return api.Move{Kind: api.Bump, State: state} }

func still(state int) api.Move { return api.Move{Kind: api.Still, State: state} }

func plain(kind int) api.Move { return api.Move{Kind: kind} }

// way is a change with the moves that the chapter of the schema gives it.
type way struct {
	d    api.Ddl
	on   []api.Move
	back []api.Move
}

// ways answers a way of each kind, all of them to be gone from the rich schema.
func ways() []way {
	return []way{
		{newTable("x"), []api.Move{bump(api.Public)}, nil},
		{
			newIndex("j"),
			[]api.Move{bump(api.DeleteOnly), bump(api.WriteOnly), plain(api.Wait), plain(api.Fill), bump(api.Public)},
			[]api.Move{bump(api.DeleteOnly), plain(api.Wait), plain(api.Sweep), bump(api.Absent)},
		},
		{dropIndex("i"), []api.Move{bump(api.WriteOnly), bump(api.DeleteOnly), plain(api.Wait), plain(api.Sweep), bump(api.Absent)}, nil},
		{
			newColumn("e"),
			[]api.Move{bump(api.DeleteOnly), bump(api.WriteOnly), plain(api.Wait), plain(api.Fill), still(api.Public)},
			[]api.Move{bump(api.DeleteOnly), bump(api.Absent)},
		},
		{dropColumn("c"), []api.Move{still(api.WriteOnly), bump(api.DeleteOnly), bump(api.Absent)}, nil},
		{
			newForeign("g"),
			[]api.Move{bump(api.WriteOnly), plain(api.Wait), plain(api.Fill), bump(api.Public)},
			[]api.Move{bump(api.Absent)},
		},
		{dropForeign("f"), []api.Move{bump(api.Absent)}, nil},
	}
}

// P16.1: Submit: jobs in order, one for each who asks, found again when they have ended too.
func TestSubmit(t *testing.T) {
	b := board.New()
	first := api.Job{Id: 1, Call: 101, By: tid(1), Ddl: newTable("t")}
	checkDo(t, b, 5, submit(1, newTable("t")), api.Result{Job: 1, New: true})
	checkHand(t, b, first, bump(api.Public), true)
	second := api.Job{Id: 2, Call: 109, By: tid(9), Ddl: newIndex("j")}
	checkDo(t, b, 5, submit(9, newIndex("j")), api.Result{Job: 2, New: true})
	checkHand(t, b, first, bump(api.Public), true)
	checkSave(t, b, api.Plan{Jobs: []api.Job{first, second}})
	checkIdle(t, b, 5, submit(9, newIndex("j")), api.Result{Job: 2})
	checkIdle(t, b, 5, submit(1, newIndex("other")), api.Result{Job: 1})
	checkDo(t, b, 5, goes(1, 0), at(1))
	first.Phase, first.End = 1, api.Done
	checkHand(t, b, second, bump(api.DeleteOnly), true)
	checkIdle(t, b, 5, submit(1, newTable("t")), api.Result{Job: 1})
	// The same change of another one who asks is another job.
	checkDo(t, b, 5, submit(2, newTable("t")), api.Result{Job: 3, New: true})
	checkJob(t, b, first)
	checkJob(t, b, second)
	checkJob(t, b, api.Job{Id: 3, Call: 102, By: tid(2), Ddl: newTable("t")})
}

// P16.1: who asks is all of a transaction's name, the zero one too; the Call is only kept.
func TestSubmitByWhom(t *testing.T) {
	b := board.New()
	list := []api.Tid{{}, {Node: 1}, {Boot: 1}, {Seq: 1}, {Node: -1, Boot: math.MinInt, Seq: math.MaxInt}, {Node: 1, Boot: 1}}
	for i, by := range list {
		checkDo(t, b, 5, api.Command{Kind: api.Submit, By: by, Call: 7, Ddl: newTable("t")}, api.Result{Job: i + 1, New: true})
	}
	for i, by := range list {
		checkIdle(t, b, 5, api.Command{Kind: api.Submit, By: by, Call: 8, Ddl: newTable("u")}, api.Result{Job: i + 1})
		if got := b.Jobs()[i]; got.By != by || got.Call != 7 {
			t.Fatalf("the job %d is %+v", i+1, got)
		}
	}
}

// P16.1: a change without moves is refused, ahead of looking who asks.
func TestSubmitWithoutMoves(t *testing.T) {
	b := made(t)
	checkDo(t, b, 5, submit(1, newTable("x")), api.Result{Job: 1, New: true})
	for _, kind := range []int{0, -1, 8, math.MinInt, math.MaxInt} {
		d := newTable("y")
		d.Kind = kind
		checkRefused(t, b, 5, submit(1, d), api.ErrArg)
		checkRefused(t, b, 5, submit(2, d), api.ErrArg)
	}
	for i, w := range ways() {
		checkDo(t, b, 5, submit(10+i, w.d), api.Result{Job: 2 + i, New: true})
	}
}

// P16.1: what a change asks for isn't looked at when it is submitted.
func TestSubmitOfNonsense(t *testing.T) {
	b := board.New()
	d := api.Ddl{
		Kind: api.AddIndex, Table: "No such", Name: "\x00", Column: "\xff", Parent: "p", Unique: true, Type: -4,
		Default: api.Value{Kind: 9, N: 9, S: "s"}, Columns: []api.Column{{Id: -1, Name: "", Kind: 7, State: 9, Default: api.Value{Kind: 3}}},
	}
	checkDo(t, b, 5, submit(1, d), api.Result{Job: 1, New: true})
	checkJob(t, b, api.Job{Id: 1, Call: 101, By: tid(1), Ddl: d})
	checkDo(t, b, 5, goes(1, 0), isNew)
	checkJob(t, b, api.Job{Id: 1, Call: 101, By: tid(1), Ddl: d, End: api.Refused, Why: api.ErrTable})
}

// P16.1: the fifth job that would be Running is refused at once, and is found again.
func TestSubmitTooMany(t *testing.T) {
	b := made(t)
	for i := 1; i <= api.MaxJobs; i++ {
		checkDo(t, b, 5, submit(i, newTable("x"+strconv.Itoa(i))), api.Result{Job: i, New: true})
	}
	checkDo(t, b, 5, submit(5, newTable("y")), api.Result{Job: 5, New: true})
	refused := api.Job{Id: 5, Call: 105, By: tid(5), Ddl: newTable("y"), End: api.Refused, Why: api.ErrMany}
	checkJob(t, b, refused)
	checkIdle(t, b, 5, submit(5, newTable("y")), api.Result{Job: 5})
	checkDo(t, b, 5, goes(1, 0), at(7))
	// There is room now: for another one, not for that which was refused.
	checkIdle(t, b, 5, submit(5, newTable("y")), api.Result{Job: 5})
	checkDo(t, b, 5, submit(6, newTable("z")), api.Result{Job: 6, New: true})
	checkDo(t, b, 5, submit(7, newTable("z")), api.Result{Job: 7, New: true})
	checkJob(t, b, refused)
	checkJob(t, b, api.Job{Id: 6, Call: 106, By: tid(6), Ddl: newTable("z")})
	checkJob(t, b, api.Job{Id: 7, Call: 107, By: tid(7), Ddl: newTable("z"), End: api.Refused, Why: api.ErrMany})
	for i, job := range []int{2, 3, 4, 6} {
		checkMove(t, b, job, 0, bump(api.Public))
		b.Do(5, goes(job, 0))
		checkRefused(t, b, 5, goes(job, 0), api.ErrTurn)
		if got := b.Jobs()[job-1]; (got.End == api.Done) != (i < 3) {
			t.Fatalf("the job %+v has ended otherwise: there is room for six tables", got)
		}
	}
	checkNoHand(t, b)
	checkJob(t, b, refused)
}

// P16.1, P16.2: of a board that was loaded with more jobs than may be Running no other one is taken.
func TestSubmitBeyondLoadedJobs(t *testing.T) {
	var p api.Plan
	for i := 1; i <= 6; i++ {
		p.Jobs = append(p.Jobs, api.Job{Id: i, By: tid(i), Ddl: newTable("x" + strconv.Itoa(i))})
	}
	b := loaded(t, p)
	for i := 7; i <= 9; i++ {
		checkDo(t, b, 5, submit(i, newTable("y")), api.Result{Job: i, New: true})
		checkJob(t, b, api.Job{Id: i, Call: 100 + i, By: tid(i), Ddl: newTable("y"), End: api.Refused, Why: api.ErrMany})
		checkDo(t, b, 5, goes(i-6, 0), at(i-6))
	}
	checkDo(t, b, 5, submit(10, newTable("y")), api.Result{Job: 10, New: true})
	checkJob(t, b, api.Job{Id: 10, Call: 110, By: tid(10), Ddl: newTable("y")})
}

// checkOutOfTurn looks at all commands that are not the job's turn as it stands: of another job, another Phase, another move.
func checkOutOfTurn(t *testing.T, b *board.Board, m api.Move) {
	t.Helper()
	j, _, _ := b.Hand()
	lists := map[int][]int{api.Drain: {api.Still}, api.Go: {api.Bump, api.Still, api.Wait}, api.Mark: {api.Fill, api.Sweep}, api.Fail: {api.Fill}}
	for kind, moves := range lists {
		for version := range 2 {
			c := api.Command{Kind: kind, Job: j.Id, Phase: j.Phase, Mark: "zz", Why: api.ErrTwice, Version: version}
			if !slices.Contains(moves, m.Kind) {
				checkRefused(t, b, ends, c, api.ErrTurn)
			}
			for _, job := range []int{0, -1, j.Id - 1, j.Id + 1, math.MinInt, math.MaxInt} {
				other := c
				other.Job = job
				checkRefused(t, b, ends, other, api.ErrTurn)
			}
			for _, phase := range []int{-1, j.Phase - 1, j.Phase + 1, j.Phase + 5, math.MinInt, math.MaxInt} {
				other := c
				other.Phase = phase
				checkRefused(t, b, ends, other, api.ErrTurn)
			}
		}
	}
}

// walk takes the job at hand along moves, from its Phase 0 on, and looks at each of them, from all sides.
func walk(t *testing.T, b *board.Board, j api.Job, moves []api.Move, end int) {
	t.Helper()
	for i, m := range moves {
		checkHand(t, b, j, m, true)
		checkOutOfTurn(t, b, m)
		next := api.Plan{Schema: b.Schema(), Jobs: b.Jobs()}
		c, want := goes(j.Id, i), at(next.Schema.Version)
		switch m.Kind {
		case api.Still:
			checkRefused(t, b, ends, c, api.ErrTurn)
			checkDo(t, b, ends, drain(j.Id, i), isNew)
			checkIdle(t, b, ends, drain(j.Id, i), api.Result{})
			j.Drain = true
			checkHand(t, b, j, m, true)
			fallthrough
		case api.Bump:
			next.Schema = turned(t, next.Schema, j.Ddl, m.State)
			want = at(next.Schema.Version)
		case api.Fill, api.Sweep:
			checkMarks(t, b, &j, m)
			c, want = over(j.Id, i), isNew
		}
		checkDo(t, b, ends, c, want)
		j.Phase, j.Drain, j.Mark = i+1, false, ""
		if i == len(moves)-1 {
			j.End = end
		}
		next.Jobs[j.Id-1] = j
		checkSave(t, b, next)
		checkRefused(t, b, ends, c, api.ErrTurn)
	}
}

// checkMarks brings a job's Mark on; j is how it stands.
func checkMarks(t *testing.T, b *board.Board, j *api.Job, m api.Move) {
	t.Helper()
	for _, c := range []struct {
		text    string
		version int
		now     string
	}{
		{"", 0, ""}, {"b", 0, "b"}, {"b", 0, "b"}, {"a\xff", 0, "b"}, {"", 0, "b"}, {"b\x00", 2, "b\x00"}, {"b", -1, "b\x00"},
		{"c\x00", 0, "c\x00"}, {"c", math.MaxInt, "c\x00"}, {"\x80", 0, "\x80"}, {"\x7f\xff", 0, "\x80"}, {"\xff", math.MinInt, "\xff"},
	} {
		checkDo(t, b, 5, api.Command{Kind: api.Mark, Job: j.Id, Phase: j.Phase, Mark: c.text, Version: c.version}, isNew)
		j.Mark = c.now
		checkHand(t, b, *j, m, true)
	}
}

// P16.1: changes of each kind go all their way, move by move.
func TestAllWays(t *testing.T) {
	for i, w := range ways() {
		b := made(t)
		checkDo(t, b, 5, submit(1, w.d), api.Result{Job: 1, New: true})
		walk(t, b, api.Job{Id: 1, Call: 101, By: tid(1), Ddl: w.d}, w.on, api.Done)
		checkNoHand(t, b)
		checkDo(t, b, 5, submit(20+i, newTable("y")), api.Result{Job: 2, New: true})
		checkMove(t, b, 2, 0, bump(api.Public))
		checkRefused(t, b, 5, goes(1, len(w.on)), api.ErrTurn)
	}
}

// P16.1: the same, with other jobs ahead and behind.
func TestAllWaysInOneLine(t *testing.T) {
	b := made(t)
	for i, w := range ways() {
		checkDo(t, b, 5, submit(1+i, w.d), api.Result{Job: 1 + i, New: true})
		if i == 0 {
			checkDo(t, b, 5, goes(1, 0), at(7))
		}
		if i < 3 {
			continue
		}
		v := ways()[i-2]
		walk(t, b, api.Job{Id: i - 1, Call: 99 + i, By: tid(i - 1), Ddl: v.d}, v.on, api.Done)
	}
	for i, w := range ways()[5:] {
		walk(t, b, api.Job{Id: 6 + i, Call: 106 + i, By: tid(6 + i), Ddl: w.d}, w.on, api.Done)
	}
	checkNoHand(t, b)
}

// P16.1: Fail, and all ways back.
func TestWaysBack(t *testing.T) {
	for _, w := range ways() {
		fill := slices.Index(w.on, plain(api.Fill))
		if fill < 0 {
			continue
		}
		for _, why := range []api.Errno{api.ErrTwice, api.ErrParent, api.OK, -3} {
			b := made(t)
			b.Do(5, submit(1, w.d))
			for i := range fill {
				checkDo(t, b, ends, goes(1, i), at(b.Schema().Version+[]int{0, 1, 1, 0}[w.on[i].Kind]))
			}
			checkDo(t, b, 5, mark(1, fill, "m"), isNew)
			checkDo(t, b, 5, fail(1, fill, why), isNew)
			j := api.Job{Id: 1, Call: 101, By: tid(1), Ddl: w.d, Back: true, Why: why}
			checkHand(t, b, j, w.back[0], true)
			checkRefused(t, b, 5, fail(1, fill, why), api.ErrTurn)
			checkRefused(t, b, 5, over(1, fill), api.ErrTurn)
			walk(t, b, j, w.back, api.Undone)
			checkNoHand(t, b)
			want := rich(t)
			got := b.Schema()
			want.Version, want.Last = got.Version, got.Last
			if !same(api.Plan{Schema: got}, api.Plan{Schema: want}) {
				t.Fatalf("behind %+v, undone, the schema is %+v, not %+v", w.d, got, want)
			}
		}
	}
}

// P16.1: a change that the schema refuses at its first move; then the next job is at hand.
func TestGoIsRefusedBySchema(t *testing.T) {
	for _, c := range []struct {
		d    api.Ddl
		want api.Errno
	}{
		{newTable("t"), api.ErrThere}, {newTable("No"), api.ErrForm}, {api.Ddl{Kind: api.AddTable, Table: "x"}, api.ErrMany},
		{newIndex("i"), api.ErrThere}, {newColumn("a"), api.ErrThere}, {newForeign("f"), api.ErrThere},
		{dropIndex("no"), api.ErrName}, {dropForeign("no"), api.ErrName},
		{api.Ddl{Kind: api.DropIndex, Table: "no"}, api.ErrTable}, {api.Ddl{Kind: api.AddColumn, Table: "t", Column: "x"}, api.ErrKind},
		{api.Ddl{Kind: api.AddIndex, Table: "t", Name: "x", Column: "no"}, api.ErrColumn},
	} {
		b := made(t)
		b.Do(5, grant(1))
		b.Do(5, submit(1, c.d))
		b.Do(5, submit(2, newTable("y")))
		before := b.Save()
		checkDo(t, b, 5, goes(1, 0), isNew)
		before.Jobs[0].End, before.Jobs[0].Why = api.Refused, c.want
		checkSave(t, b, before)
		checkRefused(t, b, 5, goes(1, 0), api.ErrTurn)
		checkMove(t, b, 2, 0, bump(api.Public))
		checkDo(t, b, 5, goes(2, 0), at(7))
		checkIdle(t, b, 5, submit(1, c.d), api.Result{Job: 1})
	}
}

// P16.1: a Still that the schema refuses isn't draining any more; leases come ahead of that.
func TestStillIsRefusedBySchema(t *testing.T) {
	for d, want := range map[string]api.Errno{"a": api.ErrUsed, "b": api.ErrUsed, "no": api.ErrColumn} {
		b := made(t)
		b.Do(5, grant(1))
		b.Do(5, submit(1, dropColumn(d)))
		checkDo(t, b, 5, drain(1, 0), isNew)
		checkRefused(t, b, 28, goes(1, 0), api.ErrEarly)
		before := b.Save()
		checkDo(t, b, 29, goes(1, 0), isNew)
		before.Jobs[0].End, before.Jobs[0].Why, before.Jobs[0].Drain = api.Refused, want, false
		checkSave(t, b, before)
		checkNoHand(t, b)
		checkDo(t, b, 29, grant(1), leased(6, 49))
	}
}

// P16.1: refused on its way, a job stays where it stood: its Phase, its Mark, and that it goes back.
func TestGoIsRefusedOnTheWay(t *testing.T) {
	for _, j := range []api.Job{
		{Id: 1, By: tid(1), Ddl: newIndex("i"), Phase: 4, Mark: "m"},
		{Id: 1, By: tid(1), Ddl: newColumn("c"), Phase: 4, Mark: "m", Drain: true},
		{Id: 1, By: tid(1), Ddl: newIndex("i"), Phase: 3, Mark: "m", Back: true, Why: api.ErrTwice, Drain: true},
		{Id: 1, By: tid(1), Ddl: newForeign("f"), Back: true, Why: api.ErrParent},
	} {
		b := loaded(t, api.Plan{Schema: rich(t), Jobs: []api.Job{j}})
		checkDo(t, b, 5, goes(1, j.Phase), isNew)
		j.End, j.Why, j.Drain = api.Refused, api.ErrThere, false
		checkSave(t, b, api.Plan{Schema: rich(t), Jobs: []api.Job{j}})
		checkNoHand(t, b)
	}
}

// P16.1: what of a loaded job each command lets be: Go takes Drain and Mark away, Mark and Fail the Mark alone.
func TestWhatStays(t *testing.T) {
	j := api.Job{Id: 1, By: tid(1), Ddl: newIndex("j"), Phase: 2, Mark: "m", Drain: true, Why: api.ErrUsed}
	b := loaded(t, api.Plan{Schema: rich(t), Jobs: []api.Job{j}})
	checkDo(t, b, 5, goes(1, 2), at(6))
	want := j
	want.Phase, want.Mark, want.Drain = 3, "", false
	checkJob(t, b, want)
	j.Phase = 3
	p := api.Plan{Schema: rich(t), Jobs: []api.Job{j}}
	b = loaded(t, p)
	checkDo(t, b, 5, over(1, 3), isNew)
	want = j
	want.Phase, want.Mark = 4, ""
	checkJob(t, b, want)
	b = loaded(t, p)
	checkDo(t, b, 5, mark(1, 3, "n"), isNew)
	want = j
	want.Mark = "n"
	checkJob(t, b, want)
	b = loaded(t, p)
	checkDo(t, b, 5, fail(1, 3, api.ErrTwice), isNew)
	want = j
	want.Phase, want.Back, want.Mark, want.Why = 0, true, "", api.ErrTwice
	checkJob(t, b, want)
}

// P16.1: at the greatest version the schema still turns, and then no more.
func TestGreatestVersion(t *testing.T) {
	s := rich(t)
	s.Version = 1 << 50
	b := loaded(t, api.Plan{Schema: s})
	b.Do(5, submit(1, newIndex("j")))
	checkDo(t, b, 5, goes(1, 0), at(1<<50+1))
	checkDo(t, b, 5, goes(1, 1), isNew)
	checkJob(t, b, api.Job{Id: 1, Call: 101, By: tid(1), Ddl: newIndex("j"), Phase: 1, End: api.Refused, Why: api.ErrForm})
}
