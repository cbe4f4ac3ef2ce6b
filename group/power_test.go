package group_test

import (
	"math"
	"slices"
	"strconv"
	"strings"
	"testing"

	"lintel/api"
	"lintel/ballot"
	"lintel/group"
	"lintel/strip"
	"lintel/wire"
)

// recordOf answers how many bytes a change has in a diary.
func recordOf(d api.Delta) int {
	return 8 + len(wire.PutDelta(d))
}

// P11.1: where the power goes in the Append or in the Sync of a change, the node is down and sends nothing; of the change is left what is kept of its bytes, all or none.
func TestPowerGoesInAChange(t *testing.T) {
	all := recordOf(api.Delta{Term: 2, Vote: 1, From: 1})
	for _, operation := range []int{1, 2} {
		for _, kept := range []int{math.MinInt, -1, 0, 1, 7, 8, all - 1, all, all + 1, math.MaxInt} {
			g := made(t, 3)
			g.Do(act(timeout, 1, 0))
			checkLetters(t, g, 2)
			do(g, act(arm, 1, operation), act(timeout, 1, 0))
			checkNone(t, g, 1)
			checkLetters(t, g, 2)
			g.Do(act(on, 1, kept))
			want := ballot.State{Term: 1, Vote: 1, Lead: -1}
			if kept >= all {
				want.Term = 2
			}
			checkStand(t, g, 1, want)
			// What was found is safe, and the drive isn't armed any more.
			do(g, act(off, 1, 0), act(on, 1, 0))
			checkStand(t, g, 1, want)
			g.Do(act(timeout, 1, 0))
			checkLetters(t, g, 4)
		}
	}
}

// P11.1: a change is one Append and one Sync: the third operation is the next change's.
func TestArm(t *testing.T) {
	for many := 1; many < 8; many++ {
		g := made(t, 2)
		g.Do(act(arm, 0, many))
		for term := 1; ; term++ {
			g.Do(act(timeout, 0, 0))
			_, up := g.Stand(0)
			if want := 2*term < many; up != want {
				t.Fatalf("armed with %d: up behind %d changes: %v", many, term, up)
			}
			if !up {
				checkLetters(t, g, term-1)
				break
			}
		}
		// Other drives aren't armed.
		for range many {
			g.Do(act(timeout, 1, 0))
		}
		checkStand(t, g, 1, ballot.State{Term: many, Vote: 1, Role: 1, Lead: -1})
	}
}

// P11.1: Arm again counts anew, and with less than 1 disarms; a start disarms too.
func TestDisarm(t *testing.T) {
	for _, b := range []int{0, -1, math.MinInt, 100, math.MaxInt} {
		g := made(t, 2)
		do(g, act(arm, 0, 1), act(arm, 0, b), act(timeout, 0, 0), act(timeout, 0, 0))
		checkStand(t, g, 0, ballot.State{Term: 2, Role: 1, Lead: -1})
	}
	g := made(t, 2)
	do(g, act(arm, 0, 1), act(off, 0, 0), act(on, 0, 0), act(timeout, 0, 0))
	checkStand(t, g, 0, ballot.State{Term: 1, Role: 1, Lead: -1})
}

// P11.1: what changes nothing that must be kept asks nothing of the drive.
func TestNoChange(t *testing.T) {
	g := led(t, 3)
	g.Do(act(cut, 0, 0))
	for n := range 3 {
		g.Do(act(arm, n, 1))
	}
	do(g, act(beat, 0, 0), act(timeout, 0, 0), act(cut, 0, 0), say(1, "x"), say(0, ""))
	deliver(t, g)
	for n := range 3 {
		if _, up := g.Stand(n); !up {
			t.Fatalf("the node %d is down", n)
		}
	}
	// The drives are armed still.
	g.Do(say(0, "x"))
	checkNone(t, g, 0)
	checkLetters(t, g, 0)
}

// P11.1: a node that takes a message keeps the change ahead of its answer.
func TestPowerGoesInATake(t *testing.T) {
	g := made(t, 3)
	do(g, act(timeout, 0, 0), act(arm, 1, 1), act(take, 0, 0))
	checkNone(t, g, 1)
	checkLetters(t, g, 1)
	checkStand(t, g, 0, ballot.State{Term: 1, Role: 1, Lead: -1})
	g.Do(act(on, 1, 0))
	checkStand(t, g, 1, fresh)

	g = led(t, 3)
	do(g, say(0, "x"), act(arm, 2, 2), act(take, 1, 0))
	checkNone(t, g, 2)
	checkLetters(t, g, 1)
	g.Do(act(on, 2, math.MaxInt))
	checkStand(t, g, 2, ballot.State{Term: 1, Lead: -1, Last: 2})
	checkEntry(t, g, 2, 2, api.Entry{Term: 1, Born: bornOf(g, 0, 2), Text: "x"})
}

// P11.1: in a group of one what is proposed is committed only where it is kept.
func TestAloneWithoutPower(t *testing.T) {
	g := led(t, 1)
	do(g, say(0, "x"), act(arm, 0, 2), say(0, "y"))
	checkNone(t, g, 0)
	do(g, act(on, 0, 0), act(timeout, 0, 0))
	checkTexts(t, g, 0, "x")
}

// P11.1: Cut makes what is committed the base; the texts up to it are in the snapshot, also behind a start.
func TestCut(t *testing.T) {
	g := led(t, 3)
	var want []string
	for k := range 5 {
		text := strings.Repeat(strconv.Itoa(k), 1+60*k)
		g.Do(say(0, text))
		deliver(t, g)
		want = append(want, text)
		for n := range 3 {
			g.Do(act(cut, n, 0))
			last := k + 2
			state := ballot.State{Term: 1, Base: last, Last: last, Commit: last}
			if n == 0 {
				state.Role = leader
			}
			checkStand(t, g, n, state)
			checkNoEntry(t, g, n, last)
			checkTexts(t, g, n, want...)
			checkLetters(t, g, 0)
		}
		// A second one finds nothing to be cut.
		before := sight(g, 3)
		g.Do(act(cut, k, k))
		if got := sight(g, 3); got != before {
			t.Fatalf("%q, not %q", got, before)
		}
		n := 1 + k%2
		do(g, act(off, n, 0), act(on, n, 0))
		checkStand(t, g, n, ballot.State{Term: 1, Vote: 0, Lead: -1, Base: k + 2, Last: k + 2, Commit: k + 2})
		checkTexts(t, g, n, want...)
	}
}

// P11.1: Cut leaves what isn't committed in the log.
func TestCutAheadOfTheLast(t *testing.T) {
	g := led(t, 3)
	g.Do(say(0, "x"))
	deliver(t, g)
	do(g, say(0, "y"), say(0, "z"), act(cut, 0, 0))
	checkStand(t, g, 0, ballot.State{Term: 1, Role: leader, Base: 2, Last: 4, Commit: 2})
	checkEntry(t, g, 0, 3, api.Entry{Term: 1, Born: bornOf(g, 0, 3), Text: "y"})
	checkTexts(t, g, 0, "x")
	do(g, act(off, 0, 0), act(on, 0, 0))
	checkStand(t, g, 0, ballot.State{Term: 1, Lead: -1, Base: 2, Last: 4, Commit: 2})
	checkTexts(t, g, 0, "x")
	g.Do(act(timeout, 0, 0))
	deliver(t, g)
	for n := range 3 {
		checkTexts(t, g, n, "x", "y", "z")
	}
}

// P11.1: where nothing is committed nothing is cut.
func TestCutNothing(t *testing.T) {
	g := made(t, 3)
	g.Do(act(timeout, 0, 0))
	before := sight(g, 3)
	for n := range 3 {
		g.Do(act(cut, n, 0))
	}
	if got := sight(g, 3); got != before {
		t.Fatalf("%q, not %q", got, before)
	}
}

// P11.1: a whole change is one Swap: where the power goes in it all is as it was, whatever is kept.
func TestPowerGoesInACut(t *testing.T) {
	for _, kept := range []int{0, 5, math.MaxInt} {
		g := led(t, 1)
		do(g, say(0, "x"), act(arm, 0, 1), act(cut, 0, 0))
		checkNone(t, g, 0)
		g.Do(act(on, 0, kept))
		checkStand(t, g, 0, ballot.State{Term: 1, Lead: -1, Last: 2})
		g.Do(act(timeout, 0, 0))
		checkTexts(t, g, 0, "x")
	}
	g := led(t, 1)
	do(g, say(0, "x"), act(arm, 0, 2), act(cut, 0, 0))
	checkStand(t, g, 0, ballot.State{Term: 1, Role: leader, Base: 2, Last: 2, Commit: 2})
	do(g, say(0, "y"))
	checkNone(t, g, 0)
	g.Do(act(on, 0, 0))
	checkStand(t, g, 0, ballot.State{Term: 1, Lead: -1, Base: 2, Last: 2, Commit: 2})
	checkTexts(t, g, 0, "x")
}

// behind answers a group whose node 2 has nothing of what the leader has cut, and of which the letter 0 is the snapshot.
func behind(t *testing.T) *group.Group {
	t.Helper()
	g := led(t, 3)
	g.Do(act(off, 2, 0))
	for _, text := range []string{"x", "y", "z"} {
		g.Do(say(0, text))
		deliver(t, g)
	}
	do(g, act(cut, 0, 0), say(0, "w"))
	deliver(t, g)
	do(g, act(on, 2, 0), act(beat, 0, 0))
	// The Feed to 1 goes ahead of what goes to 2.
	g.Do(act(lose, 0, 0))
	checkLetters(t, g, 1)
	return g
}

// P11.1: a node that was down for long is given the snapshot, and what is behind it; it keeps both.
func TestGive(t *testing.T) {
	g := behind(t)
	g.Do(act(arm, 2, 2))
	g.Do(act(take, 0, 0))
	checkStand(t, g, 2, ballot.State{Term: 1, Vote: 0, Base: 4, Last: 4, Commit: 4})
	checkTexts(t, g, 2, "x", "y", "z")
	do(g, act(arm, 2, 0), act(off, 2, 0), act(on, 2, 0))
	checkTexts(t, g, 2, "x", "y", "z")
	deliver(t, g)
	for n := range 3 {
		checkTexts(t, g, n, "x", "y", "z", "w")
	}

	g = behind(t)
	do(g, act(arm, 2, 1), act(take, 0, 0))
	checkNone(t, g, 2)
	checkLetters(t, g, 0)
	g.Do(act(on, 2, math.MaxInt))
	checkStand(t, g, 2, ballot.State{Term: 1, Lead: -1, Last: 1})
}

// wholeBytes answers how many bytes a change has by which a node alone cuts these texts off.
func wholeBytes(t *testing.T, texts []string) int {
	t.Helper()
	snap := ""
	for _, text := range append([]string{""}, texts...) {
		record, err := strip.Put(text)
		if err != api.OK {
			t.Fatal(err)
		}
		snap += record
	}
	base := 1 + len(texts)
	return len(wire.PutDelta(api.Delta{Term: 1, Whole: true, Base: base, BaseTerm: 1, Snap: snap, From: base + 1}))
}

// P11.1: a change that is too long for the diary brings the node down, and nothing of it is kept.
func TestCutTooMuch(t *testing.T) {
	var texts []string
	for k := range 247 {
		texts = append(texts, strings.Repeat(string(rune('a'+k%26)), 256))
	}
	room := api.MaxRecord - wholeBytes(t, append(texts, "", ""))
	for more := range 3 {
		g := led(t, 1)
		all := append(slices.Clone(texts), strings.Repeat("y", room/2), strings.Repeat("z", room-room/2+more-1))
		if got := wholeBytes(t, all); got != api.MaxRecord+more-1 {
			t.Fatalf("%d bytes, for the limit %d and %d", got, api.MaxRecord, more-1)
		}
		for _, text := range all {
			g.Do(say(0, text))
		}
		checkTexts(t, g, 0, all...)
		g.Do(act(cut, 0, 0))
		last := 1 + len(all)
		if more < 2 {
			checkStand(t, g, 0, ballot.State{Term: 1, Role: leader, Base: last, Last: last, Commit: last})
			do(g, act(off, 0, 0), act(on, 0, 0))
			checkTexts(t, g, 0, all...)
			continue
		}
		checkNone(t, g, 0)
		g.Do(act(on, 0, 0))
		checkStand(t, g, 0, ballot.State{Term: 1, Lead: -1, Last: last})
		g.Do(act(timeout, 0, 0))
		checkTexts(t, g, 0, all...)
	}
}
