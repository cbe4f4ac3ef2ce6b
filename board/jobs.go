package board

import (
	"slices"

	"lintel/api"
	"lintel/schema"
)

// path answers the moves of a job.
func path(j *api.Job) []api.Move { return schema.Path(j.Ddl, j.Back) }

// move answers the move of a job that is Running.
func move(j *api.Job) api.Move { return path(j)[j.Phase] }

// atHand answers the job at hand, or nil.
func (b *Board) atHand() *api.Job {
	if len(b.running) == 0 {
		return nil
	}
	return &b.jobs[b.running[0]]
}

// turn answers the job at hand, if a command is about it, its Phase, and a move of one of these kinds; else nil.
func (b *Board) turn(c api.Command, kinds ...int) *api.Job {
	j := b.atHand()
	if j == nil || j.Id != c.Job || j.Phase != c.Phase || !slices.Contains(kinds, move(j).Kind) {
		return nil
	}
	return j
}

// enter puts a job behind the others.
func (b *Board) enter(j api.Job) {
	if b.ids == nil {
		b.ids = map[api.Tid]int{}
	}
	b.ids[j.By] = j.Id
	if j.End == api.Running {
		b.running = append(b.running, len(b.jobs))
	}
	b.jobs = append(b.jobs, cloneJob(j))
}

// step brings the job at hand behind its move; behind the last one it ends.
func (b *Board) step(j *api.Job) {
	j.Phase++
	j.Mark = ""
	if j.Phase < len(path(j)) {
		return
	}
	if j.Back {
		b.end(j, api.Undone)
	} else {
		b.end(j, api.Done)
	}
}

// end ends the job at hand.
func (b *Board) end(j *api.Job, how int) {
	j.End = how
	b.running = b.running[1:]
}
