package board_test

import (
	"math"
	"testing"

	"lintel/api"
	"lintel/board"
)

// P16.1: Grant: what goes, what stays, and in which order.
func TestGrant(t *testing.T) {
	b := board.New()
	checkDo(t, b, 5, grant(2), leased(0, 25))
	checkDo(t, b, 6, grant(1), leased(0, 26))
	checkDo(t, b, 7, grant(3), leased(0, 27))
	checkLeases(t, b, api.Lease{Node: 2, Until: 25}, api.Lease{Node: 1, Until: 26}, api.Lease{Node: 3, Until: 27})
	checkDo(t, b, 8, grant(1), leased(0, 28))
	checkLeases(t, b, api.Lease{Node: 2, Until: 25}, api.Lease{Node: 3, Until: 27}, api.Lease{Node: 1, Until: 28})
	// At 28 the lease until 25 may still be in force.
	checkDo(t, b, 28, grant(-7), leased(0, 48))
	checkLeases(t, b, api.Lease{Node: 2, Until: 25}, api.Lease{Node: 3, Until: 27}, api.Lease{Node: 1, Until: 28}, api.Lease{Node: -7, Until: 48})
	checkDo(t, b, 29, grant(4), leased(0, 49))
	checkLeases(t, b, api.Lease{Node: 3, Until: 27}, api.Lease{Node: 1, Until: 28}, api.Lease{Node: -7, Until: 48}, api.Lease{Node: 4, Until: 49})
	checkDo(t, b, 1000, grant(4), leased(0, 1020))
	checkLeases(t, b, api.Lease{Node: 4, Until: 1020})
}

// P16.1: a lease is a node's, whichever of its starts asks; one on another version stays.
func TestGrantByNodeAndVersion(t *testing.T) {
	b := board.New()
	checkDo(t, b, 5, api.Command{Kind: api.Grant, By: api.Tid{Node: 2, Boot: 1, Seq: 1}}, leased(0, 25))
	checkDo(t, b, 6, api.Command{Kind: api.Grant, By: api.Tid{Node: 2, Boot: 9, Seq: 8}}, leased(0, 26))
	checkLeases(t, b, api.Lease{Node: 2, Until: 26})
	b.Do(6, submit(1, newTable("t")))
	checkDo(t, b, 6, goes(1, 0), at(1))
	checkDo(t, b, 7, grant(2), leased(1, 27))
	checkLeases(t, b, api.Lease{Node: 2, Until: 26}, api.Lease{Node: 2, Version: 1, Until: 27})
	checkDo(t, b, 9, grant(2), leased(1, 29))
	checkLeases(t, b, api.Lease{Node: 2, Until: 26}, api.Lease{Node: 2, Version: 1, Until: 29})
}

// P16.1: a clock that is behind an older one gives a shorter lease: until at and LeaseTime, whatever there was.
func TestGrantByAnEarlierClock(t *testing.T) {
	b := board.New()
	checkDo(t, b, 9, grant(2), leased(0, 29))
	checkDo(t, b, 7, grant(2), leased(0, 27))
	checkLeases(t, b, api.Lease{Node: 2, Until: 27})
}

// P16.1: while the job at hand is draining nobody is given a lease, and none goes.
func TestGrantWhileDraining(t *testing.T) {
	b := made(t)
	checkDo(t, b, 5, grant(1), leased(6, 25))
	b.Do(5, submit(1, dropColumn("c")))
	checkDo(t, b, 6, grant(2), leased(6, 26))
	checkDo(t, b, 7, drain(1, 0), isNew)
	checkRefused(t, b, 8, grant(1), api.ErrDrain)
	checkRefused(t, b, 8, grant(3), api.ErrDrain)
	checkRefused(t, b, 900, grant(3), api.ErrDrain)
	checkLeases(t, b, api.Lease{Node: 1, Version: 6, Until: 25}, api.Lease{Node: 2, Version: 6, Until: 26})
	checkDo(t, b, 30, goes(1, 0), at(7))
	checkDo(t, b, 30, grant(3), leased(7, 50))
	checkLeases(t, b, api.Lease{Node: 3, Version: 7, Until: 50})
}

// P16.1: a job that isn't at hand keeps nobody from a lease.
func TestGrantWhileAnotherOneDrains(t *testing.T) {
	b := loaded(t, api.Plan{Schema: rich(t), Jobs: []api.Job{
		{Id: 1, By: tid(1), Ddl: dropColumn("c"), End: api.Refused, Drain: true},
		{Id: 2, By: tid(2), Ddl: newIndex("j")},
		{Id: 3, By: tid(3), Ddl: dropColumn("c"), Drain: true},
	}})
	checkDo(t, b, 5, grant(1), leased(6, 25))
	b = loaded(t, api.Plan{Schema: rich(t), Jobs: []api.Job{{Id: 1, By: tid(1), Ddl: newIndex("j"), Drain: true}}})
	checkRefused(t, b, 5, grant(1), api.ErrDrain)
}

// P16.1: of leases that were loaded: all that a node has on the version go, those on others stay, as long as they may be in force.
func TestGrantOverLoadedLeases(t *testing.T) {
	b := loaded(t, api.Plan{Schema: rich(t), Leases: []api.Lease{
		{Node: 1, Version: 6, Until: 40}, {Node: 1, Version: 7, Until: 40}, {Node: 2, Version: 6, Until: 40}, {Node: 1, Version: 6, Until: 41},
		{Node: 1, Version: 5, Until: 36}, {Node: 1, Version: 5, Until: 37}, {Node: 1, Version: 0, Until: math.MaxInt},
	}})
	checkDo(t, b, 40, grant(1), leased(6, 60))
	checkLeases(t, b,
		api.Lease{Node: 1, Version: 7, Until: 40}, api.Lease{Node: 2, Version: 6, Until: 40}, api.Lease{Node: 1, Version: 5, Until: 37},
		api.Lease{Node: 1, Version: 0, Until: math.MaxInt}, api.Lease{Node: 1, Version: 6, Until: 60},
	)
}

// P16.1: Clear, at the edges of versions, and of the time at which a lease may be in force.
func TestClear(t *testing.T) {
	b := loaded(t, api.Plan{Schema: rich(t), Leases: []api.Lease{{Node: 1, Version: 5, Until: 25}, {Node: 2, Version: 6, Until: 30}, {Node: 3, Version: 2, Until: 10}}})
	for _, c := range []struct {
		at, below int
		want      bool
	}{
		{13, 3, false}, {14, 3, true}, {13, 2, true}, {0, 2, true}, {0, 3, false}, {-1, 3, false}, {math.MinInt, 3, false}, {math.MinInt, 2, true},
		{28, 6, false}, {29, 6, true}, {28, 5, true}, {13, 5, false}, {14, 5, true},
		{33, 7, false}, {34, 7, true}, {33, 6, true}, {29, 7, false},
		{33, math.MaxInt, false}, {34, math.MaxInt, true}, {math.MaxInt, math.MaxInt, true}, {0, math.MinInt, true}, {math.MinInt, math.MaxInt, false}, {0, 0, true},
	} {
		checkClear(t, b, c.at, c.below, c.want)
	}
	checkSave(t, b, loaded(t, b.Save()).Save())
}

// P16.1: the greatest times there are.
func TestClearOfLongLeases(t *testing.T) {
	for i := range 4 {
		b := loaded(t, api.Plan{Leases: []api.Lease{{Until: math.MaxInt - i}}})
		for _, when := range []int{math.MinInt, math.MinInt + 1, -1, 0, 3, 4, 1 << 50, math.MaxInt - 1, math.MaxInt} {
			checkClear(t, b, when, 1, false)
			checkClear(t, b, when, 0, true)
		}
		b.Do(1, submit(1, newTable("t")))
		checkDo(t, b, 1, goes(1, 0), at(1))
		b.Do(1, submit(2, newIndex("i")))
		checkRefused(t, b, 1<<50, goes(2, 0), api.ErrEarly)
	}
	b := loaded(t, api.Plan{Leases: []api.Lease{{Until: math.MaxInt - 4}}})
	checkClear(t, b, math.MaxInt, 1, true)
	checkClear(t, b, math.MaxInt-1, 1, false)
}

// P16.1: the lease of the time 0.
func TestClearOfShortLeases(t *testing.T) {
	b := loaded(t, api.Plan{Leases: []api.Lease{{}}})
	for _, when := range []int{math.MinInt, -1, 0, 1, 2, 3} {
		checkClear(t, b, when, 1, false)
	}
	checkClear(t, b, 4, 1, true)
}

// P16.1: which leases hold a Bump and a Wait back: those on versions below the schema's; each at its last moment.
func TestGoWaitsForLeases(t *testing.T) {
	for phase := range 3 {
		for _, c := range []struct {
			version, until, at int
			early              bool
		}{
			{6, 20, 23, false}, {7, 20, 23, false}, {math.MaxInt, 20, 23, false},
			{5, 20, 23, true}, {5, 20, 24, false}, {0, 20, 23, true}, {0, 20, 24, false}, {5, 20, 0, true}, {5, 0, 3, true}, {5, 0, 4, false},
		} {
			s := rich(t)
			for range phase {
				s = turned(t, s, newIndex("j"), api.WriteOnly)
			}
			s.Version = 6
			b := loaded(t, api.Plan{
				Schema: s,
				Leases: []api.Lease{{Node: 4, Version: 6, Until: 99}, {Node: 5, Version: c.version, Until: c.until}},
				Jobs:   []api.Job{{Id: 1, Ddl: newIndex("j"), Phase: phase}},
			})
			if c.early {
				checkRefused(t, b, c.at, goes(1, phase), api.ErrEarly)
				continue
			}
			checkDo(t, b, c.at, goes(1, phase), at([]int{7, 7, 6}[phase]))
		}
	}
}

// P16.1: a Still is held back by leases on the version itself too.
func TestStillWaitsForAllLeases(t *testing.T) {
	for _, c := range []struct {
		version, until, at int
		early              bool
	}{
		{6, 20, 23, true}, {6, 20, 24, false}, {7, 20, 23, false}, {5, 20, 23, true}, {5, 20, 24, false}, {0, 20, 23, true}, {6, 20, 0, true},
	} {
		b := loaded(t, api.Plan{
			Schema: rich(t),
			Leases: []api.Lease{{Node: 5, Version: c.version, Until: c.until}},
			Jobs:   []api.Job{{Id: 1, Ddl: dropColumn("c")}},
		})
		// Who doesn't drain is told so first.
		checkRefused(t, b, c.at, goes(1, 0), api.ErrTurn)
		checkDo(t, b, c.at, drain(1, 0), isNew)
		if c.early {
			checkRefused(t, b, c.at, goes(1, 0), api.ErrEarly)
			continue
		}
		checkDo(t, b, c.at, goes(1, 0), at(7))
	}
}
