package deal

import (
	"slices"

	"lintel/api"
)

// latest is the greatest time that a shard may answer.
const latest = 1 << 50

// Told takes in what a command of a kind about the transaction was answered at a shard. What isn't asked for now is let be: commands come late, and twice, and others ask, too.
func (d *Deal) Told(shard int, kind int, r api.Result) {
	asked := func(a Ask) bool { return a.Shard == shard && a.Command.Kind == kind }
	if r.Ts < 0 || r.Ts > latest || !slices.ContainsFunc(d.now(), asked) {
		return
	}
	switch kind {
	case api.Prepare:
		d.prepared(shard, r)
	case api.Commit:
		d.committed(r)
	case api.Abort:
		d.aborted(r)
	case api.Resolve:
		d.resolved(shard)
	}
}

// Late takes in what the time is: a deal that isn't prepared by then could be committed no more.
func (d *Deal) Late(now int) {
	if d != nil && d.phase == preparing && now > d.until {
		d.end(0, api.ErrLate)
	}
}

func (d *Deal) prepared(shard int, r api.Result) {
	if r.Err != api.OK {
		d.end(0, r.Err)
		return
	}
	d.high = max(d.high, r.Ts)
	if d.answered(shard) {
		d.enter(committing)
	}
}

func (d *Deal) committed(r api.Result) {
	if r.Err != api.OK {
		d.end(0, r.Err)
		return
	}
	d.end(r.Ts, api.OK)
}

// aborted takes in what became of somebody else's transaction: it was not committed, or it had been.
func (d *Deal) aborted(r api.Result) {
	switch r.Err {
	case api.OK:
		d.end(0, api.ErrOver)
	case api.ErrOver:
		d.end(r.Ts, api.OK)
	}
}

func (d *Deal) resolved(shard int) {
	if d.answered(shard) {
		d.enter(over)
	}
}

// answered notes that a shard has answered, and tells whether all have.
func (d *Deal) answered(shard int) bool {
	// The parts themselves stay: in the next phase all shards are asked again.
	d.waiting = slices.DeleteFunc(slices.Clone(d.waiting), func(p part) bool { return p.shard == shard })
	return len(d.waiting) == 0
}
