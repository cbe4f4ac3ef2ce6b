package group_test

import (
	"math"
	"slices"
	"strconv"
	"strings"
	"testing"

	"lintel/api"
	"lintel/ballot"
	"lintel/group"
	"lintel/wire"
)

// The kinds of acts.
const (
	take     = 1
	takeCopy = 2
	lose     = 3
	timeout  = 4
	beat     = 5
	propose  = 6
	off      = 7
	on       = 8
	arm      = 9
	cut      = 10
)

const leader = 2

// strange is numbers of no node and, as numbers of nodes and letters in acts, far from 0.
var strange = []int{math.MinInt, math.MinInt32, -7, -6, -5, -4, -3, -2, -1, 5, 6, 7, 8, 9, 1 << 20, math.MaxInt32, math.MaxInt - 1, math.MaxInt}

func made(t *testing.T, size int) *group.Group {
	t.Helper()
	g, err := group.New(size)
	if g == nil || err != api.OK {
		t.Fatalf("New(%d): %v, %d, not a group, OK", size, g, err)
	}
	return g
}

func act(kind, a, b int) api.Act { return api.Act{Kind: kind, A: a, B: b} }

func say(n int, text string) api.Act { return api.Act{Kind: propose, A: n, Text: text} }

func do(g *group.Group, list ...api.Act) {
	for _, a := range list {
		g.Do(a)
	}
}

// deliver takes all letters, the first one first.
func deliver(t *testing.T, g *group.Group) {
	t.Helper()
	for range 20000 {
		if g.Letters() == 0 {
			return
		}
		g.Do(act(take, 0, 0))
	}
	t.Fatal("letters without an end")
}

// led answers a group whose node 0 leads, and where no letter is under way; in it there was one act, and those that took letters.
func led(t *testing.T, size int) *group.Group {
	t.Helper()
	g := made(t, size)
	g.Do(act(timeout, 0, 0))
	deliver(t, g)
	if s, up := g.Stand(0); !up || s.Role != leader || s.Commit != 1 {
		t.Fatalf("the node 0 doesn't lead: %+v, %v", s, up)
	}
	return g
}

func checkStand(t *testing.T, g *group.Group, n int, want ballot.State) {
	t.Helper()
	if s, up := g.Stand(n); s != want || !up {
		t.Fatalf("Stand(%d): %+v, %v, not %+v, true", n, s, up, want)
	}
}

// checkNone looks at a node that is down, or isn't there.
func checkNone(t *testing.T, g *group.Group, n int) {
	t.Helper()
	if s, up := g.Stand(n); s != (ballot.State{}) || up {
		t.Fatalf("Stand(%d): %+v, %v, not nothing, false", n, s, up)
	}
	for _, i := range []int{math.MinInt, -1, 0, 1, 2, math.MaxInt} {
		if e, ok := g.Entry(n, i); e != (api.Entry{}) || ok {
			t.Fatalf("Entry(%d, %d): %v, %v, not nothing, false", n, i, e, ok)
		}
	}
	checkTexts(t, g, n)
}

func checkTexts(t *testing.T, g *group.Group, n int, want ...string) {
	t.Helper()
	if got := g.Texts(n); !slices.Equal(got, want) {
		t.Fatalf("Texts(%d): %.200q, not %.200q", n, got, want)
	}
}

func checkEntry(t *testing.T, g *group.Group, n, i int, want api.Entry) {
	t.Helper()
	if e, ok := g.Entry(n, i); e != want || !ok {
		t.Fatalf("Entry(%d, %d): %v, %v, not %v, true", n, i, e, ok, want)
	}
}

func checkNoEntry(t *testing.T, g *group.Group, n, i int) {
	t.Helper()
	if e, ok := g.Entry(n, i); e != (api.Entry{}) || ok {
		t.Fatalf("Entry(%d, %d): %v, %v, where there is none", n, i, e, ok)
	}
}

func checkLetters(t *testing.T, g *group.Group, want int) {
	t.Helper()
	if got := g.Letters(); got != want {
		t.Fatalf("Letters: %d, not %d", got, want)
	}
}

// fresh is where a node stands that has done nothing.
var fresh = ballot.State{Vote: -1, Lead: -1}

// sight is all that can be seen of a group.
func sight(g *group.Group, size int) string {
	var all strings.Builder
	all.WriteString(strconv.Itoa(g.Letters()))
	for n := range size {
		s, up := g.Stand(n)
		for _, x := range []int{s.Term, s.Vote, s.Role, s.Lead, s.Base, s.Last, s.Commit} {
			all.WriteString(" " + strconv.Itoa(x))
		}
		all.WriteString(" " + strconv.FormatBool(up))
		for i := s.Base; i <= s.Last+1; i++ {
			e, ok := g.Entry(n, i)
			all.WriteString(wire.PutMsg(api.Msg{Good: ok, List: []api.Entry{e}}))
		}
		all.WriteString(strings.Join(g.Texts(n), "\n"))
	}
	return all.String()
}

// P11.1: the chapter's example, with all that can be seen.
func TestExample(t *testing.T) {
	g := made(t, 3)
	g.Do(act(timeout, 0, 0))
	deliver(t, g)
	checkStand(t, g, 0, ballot.State{Term: 1, Role: leader, Last: 1, Commit: 1})
	g.Do(say(0, "x"))
	deliver(t, g)
	for n := range 3 {
		checkTexts(t, g, n, "x")
		checkEntry(t, g, n, 1, api.Entry{Term: 1})
		checkNoEntry(t, g, n, 0)
		checkNoEntry(t, g, n, 3)
	}
	checkStand(t, g, 0, ballot.State{Term: 1, Role: leader, Last: 2, Commit: 2})
	checkStand(t, g, 1, ballot.State{Term: 1, Last: 2, Commit: 2})
	checkStand(t, g, 2, ballot.State{Term: 1, Last: 2, Commit: 2})
}

// P11.1: all nodes of a new group are up, with nothing; sizes that may not be have none.
func TestNew(t *testing.T) {
	for size := 1; size <= api.MaxNodes; size++ {
		g := made(t, size)
		checkLetters(t, g, 0)
		for n := range size {
			checkStand(t, g, n, fresh)
			checkNoEntry(t, g, n, 1)
			checkTexts(t, g, n)
			// Nothing was kept either.
			do(g, act(off, n, 0), act(on, n, math.MaxInt))
			checkStand(t, g, n, fresh)
		}
		for _, n := range append([]int{size}, strange...) {
			checkNone(t, g, n)
		}
	}
	for _, size := range []int{0, -1, -3, api.MaxNodes + 1, 1<<32 + 3, math.MinInt, math.MaxInt} {
		if g, err := group.New(size); g != nil || err != api.ErrArg {
			t.Fatalf("New(%d): %v, %d, not nil, ErrArg", size, g, err)
		}
	}
}

// P11.1: numbers of nodes that there aren't are nobody's also where all nodes have done much.
func TestNoNode(t *testing.T) {
	g := led(t, 3)
	g.Do(say(0, "x"))
	deliver(t, g)
	for _, n := range append([]int{3, 4}, strange...) {
		checkNone(t, g, n)
	}
}

// P11.1: a node of an act is A modulo the size, from 0 on.
func TestNodeOfAnAct(t *testing.T) {
	for size := 1; size <= api.MaxNodes; size++ {
		for _, a := range append([]int{0, 1, 2, 3, 4}, strange...) {
			want := a % size
			if want < 0 {
				want += size
			}
			g := made(t, size)
			g.Do(act(timeout, a, 0))
			checkLetters(t, g, size-1)
			for n := range size {
				s, up := g.Stand(n)
				if moved := s.Term == 1 && s.Vote == n; !up || moved != (n == want) {
					t.Fatalf("of %d nodes: the act of %d found %d at %+v", size, a, n, s)
				}
			}
			g = made(t, size)
			g.Do(act(off, a, 0))
			for n := range size {
				if _, up := g.Stand(n); up != (n != want) {
					t.Fatalf("of %d nodes: the act of %d left %d up: %v", size, a, n, up)
				}
			}
			g.Do(act(on, a, 0))
			checkStand(t, g, want, fresh)
		}
	}
}

// P11.1: a letter of an act is A modulo how many there are, from 0 on; letters lie in the order in which they were sent.
func TestLetterOfAnAct(t *testing.T) {
	for _, a := range append([]int{0, 1, 2, 3, 4}, strange...) {
		want := a % 4
		if want < 0 {
			want += 4
		}
		for _, kind := range []int{take, takeCopy} {
			g := made(t, 5)
			g.Do(act(timeout, 0, 0))
			g.Do(act(kind, a, 0))
			for n := 1; n < 5; n++ {
				s, _ := g.Stand(n)
				if asked := s.Term == 1 && s.Vote == 0; asked != (n == want+1) {
					t.Fatalf("the letter %d was not the one to %d: %d stands at %+v", a, want+1, n, s)
				}
			}
			checkLetters(t, g, 4+kind-1)
		}
		g := made(t, 5)
		do(g, act(timeout, 0, 0), act(lose, a, 0))
		checkLetters(t, g, 3)
		deliver(t, g)
		for n := 1; n < 5; n++ {
			s, _ := g.Stand(n)
			if asked := s.Vote == 0; asked != (n != want+1) {
				t.Fatalf("the letter %d that was lost was not the one to %d: %d stands at %+v", a, want+1, n, s)
			}
		}
	}
}

// P11.1: without a letter nothing is done, whichever is named.
func TestNoLetter(t *testing.T) {
	for size := 1; size <= api.MaxNodes; size++ {
		g := made(t, size)
		before := sight(g, size)
		for _, kind := range []int{take, takeCopy, lose} {
			for _, a := range append([]int{0, 1}, strange...) {
				g.Do(act(kind, a, 0))
			}
		}
		if got := sight(g, size); got != before {
			t.Fatalf("of %d nodes: %q, not %q", size, got, before)
		}
	}
}

// P11.1: what is answered lies behind the letters that are there, and leads on.
func TestTake(t *testing.T) {
	g := made(t, 3)
	do(g, act(timeout, 0, 0), act(take, 0, 0))
	checkLetters(t, g, 2)
	checkStand(t, g, 1, ballot.State{Term: 1, Lead: -1})
	checkStand(t, g, 2, fresh)
	g.Do(act(take, 1, 0))
	checkStand(t, g, 0, ballot.State{Term: 1, Role: leader, Last: 1})
	checkLetters(t, g, 3)
	g.Do(act(take, 0, 0))
	checkStand(t, g, 2, ballot.State{Term: 1, Lead: -1})
	checkLetters(t, g, 3)
	g.Do(act(take, 1, 0))
	checkStand(t, g, 2, ballot.State{Term: 1, Last: 1})
}

// P11.1: a letter that is copied stays, and comes again.
func TestTakeCopy(t *testing.T) {
	g := made(t, 5)
	g.Do(act(timeout, 0, 0))
	for want := 5; want < 8; want++ {
		g.Do(act(takeCopy, 2, 0))
		checkLetters(t, g, want)
		checkStand(t, g, 3, ballot.State{Term: 1, Lead: -1})
	}
	// Three votes of one node are one.
	for range 3 {
		g.Do(act(take, 4, 0))
	}
	checkStand(t, g, 0, ballot.State{Term: 1, Role: 1, Lead: -1})
	do(g, act(take, 0, 0), act(take, 3, 0))
	checkStand(t, g, 0, ballot.State{Term: 1, Role: leader, Last: 1})
}

// P11.1: a letter to a node that is down is taken all the same, and stays if it is copied; the node learns nothing of it.
func TestLetterToANodeThatIsDown(t *testing.T) {
	for _, kind := range []int{take, takeCopy} {
		g := made(t, 3)
		do(g, act(timeout, 0, 0), act(off, 1, 0), act(kind, 0, 0))
		checkLetters(t, g, kind)
		checkNone(t, g, 1)
		g.Do(act(on, 1, math.MaxInt))
		checkStand(t, g, 1, fresh)
		deliver(t, g)
		checkStand(t, g, 0, ballot.State{Term: 1, Role: leader, Last: 1, Commit: 1})
	}
}

// P11.1: letters of a node that went down are under way still.
func TestLettersOutliveTheirSender(t *testing.T) {
	g := made(t, 3)
	do(g, act(timeout, 0, 0), act(off, 0, 0))
	checkLetters(t, g, 2)
	g.Do(act(take, 1, 0))
	checkStand(t, g, 2, ballot.State{Term: 1, Lead: -1})
}

// P11.1: Beat feeds all others at a leader, and does nothing elsewhere.
func TestBeat(t *testing.T) {
	for size := 1; size <= api.MaxNodes; size++ {
		g := led(t, size)
		before := sight(g, size)
		for n := 1; n < size; n++ {
			g.Do(act(beat, n, 0))
		}
		if got := sight(g, size); got != before {
			t.Fatalf("of %d nodes: Beat of a follower: %q, not %q", size, got, before)
		}
		g.Do(act(beat, 0, 0))
		checkLetters(t, g, size-1)
		deliver(t, g)
		if got := sight(g, size); got != before {
			t.Fatalf("of %d nodes: behind a Beat: %q, not %q", size, got, before)
		}
	}
}

// P11.1: Timeout of a leader does nothing; each one of another node begins a term.
func TestTimeout(t *testing.T) {
	g := led(t, 3)
	before := sight(g, 3)
	g.Do(act(timeout, 0, 0))
	if got := sight(g, 3); got != before {
		t.Fatalf("%q, not %q", got, before)
	}
	for term := 2; term < 6; term++ {
		g.Do(act(timeout, 2, 0))
		checkStand(t, g, 2, ballot.State{Term: term, Vote: 2, Role: 1, Lead: -1, Last: 1, Commit: 1})
		checkLetters(t, g, 2*(term-1))
	}
}

// P11.1: a text is proposed by who leads; At is 0, Born the number of the act, those that did nothing counted.
func TestPropose(t *testing.T) {
	g := made(t, 1)
	do(g, act(timeout, 0, 0), say(0, "two"), act(0, 0, 0), act(99, 0, 0), act(-1, 0, 0), act(take, 0, 0), say(0, ""))
	do(g, api.Act{Kind: propose, A: 7, B: 9, Text: "eight"}, act(on, 0, 0), act(math.MinInt, 1, 1), act(off, 0, 0), say(0, "down"))
	do(g, act(on, 0, 0), act(timeout, 0, 0), say(0, "fifteen"))
	checkEntry(t, g, 0, 1, api.Entry{Term: 1})
	checkEntry(t, g, 0, 2, api.Entry{Term: 1, Born: 2, Text: "two"})
	checkEntry(t, g, 0, 3, api.Entry{Term: 1, Born: 8, Text: "eight"})
	checkEntry(t, g, 0, 4, api.Entry{Term: 2})
	checkEntry(t, g, 0, 5, api.Entry{Term: 2, Born: 15, Text: "fifteen"})
	checkNoEntry(t, g, 0, 6)
	checkTexts(t, g, 0, "two", "eight", "fifteen")
}

// P11.1: who doesn't lead proposes nothing.
func TestProposeElsewhere(t *testing.T) {
	g := led(t, 3)
	g.Do(act(timeout, 2, 0))
	before := sight(g, 3)
	do(g, say(1, "x"), say(2, "x"), say(-1, "x"))
	if got := sight(g, 3); got != before {
		t.Fatalf("%q, not %q", got, before)
	}
}

// P11.1: a text has 1 to 256 bytes, whichever; of others nothing is done.
func TestProposeAtItsLimits(t *testing.T) {
	g := led(t, 2)
	before := sight(g, 2)
	for _, n := range []int{0, 257, 258, 512, 1 << 16, 1 << 20} {
		g.Do(say(0, strings.Repeat("x", n)))
		if got := sight(g, 2); got != before {
			t.Fatalf("a text of %d bytes was proposed", n)
		}
	}
	var want []string
	for _, text := range []string{"x", "\x00", " ", "\xff\xfe", strings.Repeat("y", 255), strings.Repeat("z", 256), strings.Repeat("\x80", 256)} {
		g.Do(say(0, text))
		deliver(t, g)
		want = append(want, text)
	}
	for n := range 2 {
		checkTexts(t, g, n, want...)
	}
}

// P11.1: a text is told where it is known to be committed, not ahead of that.
func TestTextsAreCommitted(t *testing.T) {
	g := led(t, 3)
	g.Do(say(0, "x"))
	for n := range 3 {
		checkTexts(t, g, n)
	}
	checkEntry(t, g, 0, 2, api.Entry{Term: 1, Born: bornOf(g, 0, 2), Text: "x"})
	checkNoEntry(t, g, 1, 2)
	g.Do(act(take, 0, 0))
	checkEntry(t, g, 1, 2, api.Entry{Term: 1, Born: bornOf(g, 0, 2), Text: "x"})
	for n := range 3 {
		checkTexts(t, g, n)
	}
	g.Do(act(take, 1, 0))
	checkTexts(t, g, 0, "x")
	checkTexts(t, g, 1)
	checkTexts(t, g, 2)
	deliver(t, g)
	for n := range 3 {
		checkTexts(t, g, n, "x")
	}
}

func bornOf(g *group.Group, n, i int) int {
	e, _ := g.Entry(n, i)
	return e.Born
}

// P11.1: a node that is down does nothing and tells nothing, and a node that is up isn't started.
func TestDownAndUp(t *testing.T) {
	g := led(t, 3)
	g.Do(say(0, "x"))
	deliver(t, g)
	before := sight(g, 3)
	for n := range 3 {
		do(g, act(on, n, 0), act(on, n, math.MaxInt))
	}
	if got := sight(g, 3); got != before {
		t.Fatalf("a start of nodes that are up: %q, not %q", got, before)
	}
	g.Do(act(off, 0, 0))
	checkNone(t, g, 0)
	down := sight(g, 3)
	do(g, act(off, 0, 0), act(timeout, 0, 0), act(beat, 0, 0), say(0, "y"), act(cut, 0, 0), act(arm, 0, 1))
	if got := sight(g, 3); got != down {
		t.Fatalf("acts of a node that is down: %q, not %q", got, down)
	}
	g.Do(act(on, 0, 0))
	checkStand(t, g, 0, ballot.State{Term: 1, Lead: -1, Last: 2})
	checkEntry(t, g, 0, 1, api.Entry{Term: 1})
	checkEntry(t, g, 0, 2, api.Entry{Term: 1, Born: bornOf(g, 1, 2), Text: "x"})
	checkTexts(t, g, 0)
	// It isn't armed: it was down.
	g.Do(act(timeout, 0, 0))
	deliver(t, g)
	checkStand(t, g, 0, ballot.State{Term: 2, Role: leader, Last: 3, Commit: 3})
	for n := range 3 {
		checkTexts(t, g, n, "x")
	}
}

// P11.1: acts of other kinds do nothing.
func TestOtherActs(t *testing.T) {
	g := led(t, 3)
	do(g, say(0, "x"), act(off, 2, 0))
	before := sight(g, 3)
	for _, kind := range []int{math.MinInt, math.MinInt32, -10, -4, -1, 0, 11, 12, 13, 14, 20, 256 + 4, 1<<32 + 4, math.MaxInt} {
		for a := range 3 {
			g.Do(api.Act{Kind: kind, A: a, B: 1, Text: "y"})
		}
	}
	if got := sight(g, 3); got != before {
		t.Fatalf("%q, not %q", got, before)
	}
}

// P11.1: entries without a text are entries, but no texts.
func TestTextsWithoutAByte(t *testing.T) {
	g := led(t, 3)
	var want []string
	for k := range 6 {
		n := k % 3
		g.Do(act(timeout, n, 0))
		deliver(t, g)
		g.Do(say(n, strconv.Itoa(k)))
		deliver(t, g)
		want = append(want, strconv.Itoa(k))
		g.Do(act(cut, (k+1)%3, 0))
		for m := range 3 {
			checkTexts(t, g, m, want...)
		}
	}
}

// P11.1: two groups never meet, and what is told is the asker's own.
func TestOnTheirOwn(t *testing.T) {
	g, h := led(t, 3), made(t, 3)
	do(g, say(0, "x"), say(0, "y"))
	deliver(t, g)
	for n := range 3 {
		checkStand(t, h, n, fresh)
	}
	checkLetters(t, h, 0)
	for range 2 {
		list := g.Texts(0)
		list[0], list[1] = "a", "b"
		_ = append(list[:1], "c")
		checkTexts(t, g, 0, "x", "y")
		checkTexts(t, g, 1, "x", "y")
		g.Do(act(cut, 0, 0))
	}
}

// P11.3: a nil group does nothing, and so does one that New didn't make.
func TestNil(t *testing.T) {
	for _, g := range []*group.Group{nil, {}} {
		for kind := -1; kind < 12; kind++ {
			for _, a := range append([]int{0, 1}, strange...) {
				g.Do(api.Act{Kind: kind, A: a, B: 1, Text: "x"})
			}
		}
		checkLetters(t, g, 0)
		for _, n := range append([]int{0, 1, 2}, strange...) {
			checkNone(t, g, n)
		}
	}
}
