package board

import (
	"slices"

	"lintel/api"
	"lintel/schema"
)

// No clock that a command is written down at is greater.
const latest = 1 << 50

// Do does a command, at being the clock of whoever wrote it down. ErrNil, ErrArg, and the errors of commands.
func (b *Board) Do(at int, c api.Command) api.Result {
	if b == nil {
		return api.Result{Err: api.ErrNil}
	}
	kinds := map[int]func(int, api.Command) api.Result{
		api.Grant:  b.grant,
		api.Submit: b.submit,
		api.Drain:  b.drain,
		api.Go:     b.advance,
		api.Mark:   b.mark,
		api.Fail:   b.fail,
	}
	do, there := kinds[c.Kind]
	if !there || at < 0 || at > latest {
		return api.Result{Err: api.ErrArg}
	}
	return do(at, c)
}

// grant gives a node a lease on the schema's version, in place of the one that it has on it. ErrDrain.
func (b *Board) grant(at int, c api.Command) api.Result {
	if j := b.atHand(); j != nil && j.Drain {
		return api.Result{Err: api.ErrDrain}
	}
	next := api.Lease{Node: c.By.Node, Version: b.schema.Version, Until: at + api.LeaseTime}
	b.leases = slices.DeleteFunc(b.leases, func(l api.Lease) bool {
		return !inForce(l, at) || l.Node == next.Node && l.Version == next.Version
	})
	b.leases = append(b.leases, next)
	return api.Result{Version: next.Version, Until: next.Until, New: true}
}

// submit puts a job behind the others, once for each one who asks. ErrArg.
func (b *Board) submit(_ int, c api.Command) api.Result {
	if len(schema.Path(c.Ddl, false)) == 0 {
		return api.Result{Err: api.ErrArg}
	}
	if id, there := b.ids[c.By]; there {
		return api.Result{Job: id}
	}
	j := api.Job{Id: len(b.jobs) + 1, Call: c.Call, By: c.By, Ddl: c.Ddl}
	// A job that is too many is kept all the same: a Submit that comes again must find it.
	if len(b.running) >= api.MaxJobs {
		j.End, j.Why = api.Refused, api.ErrMany
	}
	b.enter(j)
	return api.Result{Job: j.Id, New: true}
}

// drain lets no lease be given until the job at hand has made its move. ErrTurn.
func (b *Board) drain(_ int, c api.Command) api.Result {
	j := b.turn(c, api.Still)
	if j == nil {
		return api.Result{Err: api.ErrTurn}
	}
	was := j.Drain
	j.Drain = true
	return api.Result{New: !was}
}

// advance makes a move that goes through no rows. ErrTurn, ErrEarly.
func (b *Board) advance(at int, c api.Command) api.Result {
	j := b.turn(c, api.Bump, api.Still, api.Wait)
	if j == nil {
		return api.Result{Err: api.ErrTurn}
	}
	m, below := move(j), b.schema.Version
	if m.Kind == api.Still {
		if !j.Drain {
			return api.Result{Err: api.ErrTurn}
		}
		below++
	}
	if !b.Clear(at, below) {
		return api.Result{Err: api.ErrEarly}
	}
	if m.Kind != api.Wait {
		next, err := schema.Turn(b.schema, j.Ddl, m.State)
		if err != api.OK {
			j.Why, j.Drain = err, false
			b.end(j, api.Refused)
			return api.Result{New: true}
		}
		b.schema = next
	}
	j.Drain = false
	b.step(j)
	return api.Result{Version: b.schema.Version, New: true}
}

// mark tells how far a move has gone through its rows, or, by the Version 1, that it is over. ErrTurn.
func (b *Board) mark(_ int, c api.Command) api.Result {
	j := b.turn(c, api.Fill, api.Sweep)
	if j == nil {
		return api.Result{Err: api.ErrTurn}
	}
	if c.Version == 1 {
		b.step(j)
	} else {
		// A Mark that comes late must not bring the job back.
		j.Mark = max(j.Mark, c.Mark)
	}
	return api.Result{New: true}
}

// fail lets the job at hand go back, for a reason that it met while it filled. ErrTurn.
func (b *Board) fail(_ int, c api.Command) api.Result {
	j := b.turn(c, api.Fill)
	if j == nil || j.Back {
		return api.Result{Err: api.ErrTurn}
	}
	j.Back, j.Phase, j.Mark, j.Why = true, 0, "", c.Why
	return api.Result{New: true}
}
