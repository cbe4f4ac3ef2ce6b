package group_test

import (
	"math"
	"math/rand"
	"slices"
	"strconv"
	"strings"
	"testing"

	"lintel/api"
	"lintel/ballot"
	"lintel/group"
)

// sketch is a group in the simplest way: ballots whose changes are a list, and messages that are no bytes.
type sketch struct {
	nodes []sketchNode
	under []api.Msg
	acts  int
}

type sketchNode struct {
	b     *ballot.Ballot // nil: it is down
	kept  []api.Delta
	torn  []api.Delta // the one in whose Append or Sync the power went
	armed int         // operations until the power goes; 0: none will
}

func newSketch(size int) *sketch {
	k := &sketch{nodes: make([]sketchNode, size)}
	for n := range size {
		k.nodes[n].b, _ = ballot.New(n, size)
	}
	return k
}

// operate counts an operation of the drive, and answers whether there is power still.
func (x *sketchNode) operate() bool {
	x.armed--
	return x.armed != 0
}

func (x *sketchNode) keep(d api.Delta) bool {
	if d.Whole {
		if !x.operate() {
			return false
		}
		x.kept = []api.Delta{d}
		return true
	}
	if !x.operate() || !x.operate() {
		x.torn = []api.Delta{d}
		return false
	}
	x.kept = append(x.kept, d)
	return true
}

func (k *sketch) did(n int, out []api.Msg) {
	x := &k.nodes[n]
	if d, ok := x.b.Delta(); ok && !x.keep(d) {
		x.b = nil
		return
	}
	k.under = append(k.under, out...)
}

func (k *sketch) start(n, kept int) {
	x := &k.nodes[n]
	for _, d := range x.torn {
		if kept >= recordOf(d) {
			x.kept = append(x.kept, d)
		}
	}
	x.torn, x.armed = nil, 0
	x.b, _ = ballot.Load(n, len(k.nodes), x.kept)
}

func euclid(a, n int) int {
	for a < 0 {
		a += n
	}
	return a % n
}

func (k *sketch) do(a api.Act) {
	k.acts++
	if a.Kind < take || a.Kind > cut {
		return
	}
	if a.Kind <= lose {
		k.doLetter(a)
		return
	}
	n := euclid(a.A, len(k.nodes))
	x := &k.nodes[n]
	switch {
	case x.b == nil && a.Kind == on:
		k.start(n, a.B)
	case x.b == nil:
	case a.Kind == timeout:
		k.did(n, x.b.Timeout())
	case a.Kind == beat:
		k.did(n, x.b.Beat())
	case a.Kind == propose && len(a.Text) >= 1 && len(a.Text) <= 256:
		_, out := x.b.Propose(0, k.acts, a.Text)
		k.did(n, out)
	case a.Kind == off:
		x.b = nil
	case a.Kind == arm:
		x.armed = max(a.B, 0)
	case a.Kind == cut:
		x.b.Cut(x.b.Stand().Commit, "all up to there")
		k.did(n, nil)
	}
}

func (k *sketch) doLetter(a api.Act) {
	if len(k.under) == 0 {
		return
	}
	i := euclid(a.A, len(k.under))
	m := k.under[i]
	if a.Kind != takeCopy {
		k.under = slices.Delete(k.under, i, i+1)
	}
	if a.Kind != lose && k.nodes[m.To].b != nil {
		k.did(m.To, k.nodes[m.To].b.Take(m))
	}
}

// game is a group, its sketch, and all that was ever seen to be committed in it.
type game struct {
	t       *testing.T
	r       *rand.Rand
	size    int
	g       *group.Group
	k       *sketch
	log     []api.Entry // what is committed, from the first one on
	since   []int       // in which term it was
	leaders map[int]int // by terms
	steps   int
	seen    map[string]int
}

func newGame(t *testing.T, seed int64, seen map[string]int) *game {
	r := rand.New(rand.NewSource(seed))
	size := 1 + r.Intn(api.MaxNodes)
	return &game{t: t, r: r, size: size, g: made(t, size), k: newSketch(size), leaders: map[int]int{}, seen: seen}
}

func (x *game) do(a api.Act) {
	x.t.Helper()
	x.steps++
	x.g.Do(a)
	x.k.do(a)
	x.compare(a)
	for n := range x.size {
		x.look(n)
	}
}

// compare holds what can be seen of the group against the sketch.
func (x *game) compare(a api.Act) {
	x.t.Helper()
	if got := x.g.Letters(); got != len(x.k.under) {
		x.t.Fatalf("behind the act %d, %+v: %d letters, not %d", x.steps, a, got, len(x.k.under))
	}
	for n, node := range x.k.nodes {
		want := node.b.Stand()
		s, up := x.g.Stand(n)
		if s != want || up != (node.b != nil) {
			x.t.Fatalf("behind the act %d, %+v: the node %d stands at %+v, %v, not at %+v", x.steps, a, n, s, up, want)
		}
		for i := want.Base; i <= want.Last+1; i++ {
			e, ok := node.b.Entry(i)
			if got, there := x.g.Entry(n, i); got != e || there != ok {
				x.t.Fatalf("behind the act %d, %+v: Entry(%d, %d): %v, %v, not %v, %v", x.steps, a, n, i, got, there, e, ok)
			}
		}
	}
}

// look looks at what must hold of a node, whatever happens.
func (x *game) look(n int) {
	x.t.Helper()
	s, up := x.g.Stand(n)
	if s.Role == leader {
		x.lookAtLeader(n, s)
	}
	for i := s.Base + 1; i <= s.Commit; i++ {
		e, _ := x.g.Entry(n, i)
		if i <= len(x.log) && x.log[i-1] != e {
			x.t.Fatalf("the entry %d is %v at %d, and was %v", i, e, n, x.log[i-1])
		}
	}
	var want []string
	for i := range s.Commit {
		if text := x.log[i].Text; text != "" {
			want = append(want, text)
		}
	}
	if got := x.g.Texts(n); !slices.Equal(got, want) {
		x.t.Fatalf("Texts(%d): %q, not %q", n, got, want)
	}
	if !up {
		x.seen["down"]++
	}
	if s.Base > 0 && s.Base < s.Last {
		x.seen["behind a base"]++
	}
}

// lookAtLeader looks at a leader: the only one of its term, with all that was committed in earlier ones. What is committed is so at a leader first.
func (x *game) lookAtLeader(n int, s ballot.State) {
	x.t.Helper()
	if had, ok := x.leaders[s.Term]; ok && had != n {
		x.t.Fatalf("%d and %d lead in the term %d", had, n, s.Term)
	}
	x.leaders[s.Term] = n
	for i := s.Base + 1; i <= len(x.log); i++ {
		if e, _ := x.g.Entry(n, i); x.since[i-1] < s.Term && e != x.log[i-1] {
			x.t.Fatalf("%d leads in the term %d with the entry %d %v, where in the term %d %v was committed", n, s.Term, i, e, x.since[i-1], x.log[i-1])
		}
	}
	for i := len(x.log) + 1; i <= s.Commit; i++ {
		e, _ := x.g.Entry(n, i)
		x.log = append(x.log, e)
		x.since = append(x.since, s.Term)
	}
}

// chance answers an act, most of them such that the group gets on.
func (x *game) chance() api.Act {
	a := act(0, x.r.Intn(1000)-500, 0)
	switch kind := x.r.Intn(100); {
	case kind < 5:
		a.Kind = timeout
	case kind < 9:
		a.Kind = beat
	case kind < 24:
		a.Kind, a.Text = propose, strings.Repeat(strconv.Itoa(x.steps), x.r.Intn(3))
		a.A = x.r.Intn(x.size)
		if s, _ := x.g.Stand(a.A); s.Role != leader && s.Lead >= 0 {
			a.A = s.Lead
		}
	case kind < 26:
		a.Kind = off
	case kind < 32:
		a.Kind, a.B = on, []int{-1, 0, 5, 15, 20, 25, 30, math.MaxInt}[x.r.Intn(8)]
	case kind < 35:
		a.Kind, a.B = arm, x.r.Intn(8)-1
	case kind < 38:
		a.Kind = cut
	case kind < 43:
		a.Kind = lose
	case kind < 48:
		a.Kind = takeCopy
	case kind < 50:
		a.Kind = []int{-1, 0, 11, 12}[x.r.Intn(4)]
	default:
		a.Kind = take
	}
	// Without this there would be more letters than are ever taken.
	if len(x.k.under) > 40 {
		a = act(lose, x.r.Intn(40), 0)
	}
	return a
}

// calm brings all nodes up, disarms their drives, and takes all letters.
func (x *game) calm() {
	x.t.Helper()
	for n := range x.size {
		x.do(act(on, n, 0))
		x.do(act(arm, n, 0))
	}
	x.deliver()
}

func (x *game) deliver() {
	x.t.Helper()
	for range 20000 {
		if x.g.Letters() == 0 {
			return
		}
		x.do(act(take, x.r.Intn(x.g.Letters()), 0))
	}
	x.t.Fatal("letters without an end")
}

// elect lets nodes stand for election, one behind the other, until one of them leads.
func (x *game) elect() int {
	x.t.Helper()
	for round := range 300 {
		n := round % x.size
		x.do(act(timeout, n, 0))
		x.deliver()
		if s, _ := x.g.Stand(n); s.Role == leader {
			return n
		}
	}
	x.t.Fatal("nobody leads")
	return 0
}

// P11.1, P11.2: whatever acts there are, a group does as the sketch; of two nodes' texts, at any moments, one begins the other; one leads in a term, and has all that was committed ahead of it; when nothing goes wrong any more what is proposed is committed everywhere.
func TestChance(t *testing.T) {
	seen := map[string]int{}
	for seed := range int64(300) {
		x := newGame(t, seed, seen)
		for range 500 {
			x.do(x.chance())
		}
		x.calm()
		n := x.elect()
		for k := range 10 {
			x.do(api.Act{Kind: propose, A: n, Text: "calm " + strconv.Itoa(k)})
			x.deliver()
		}
		want := x.g.Texts(n)
		for m := range x.size {
			got := x.g.Texts(m)
			if !slices.Equal(got, want) || len(got) < 10 || got[len(got)-1] != "calm 9" || got[len(got)-10] != "calm 0" {
				t.Fatalf("seed %d: Texts(%d): %q, those of the leader %q", seed, m, got, want)
			}
		}
		seen["committed"] += len(want)
		seen["terms"] += len(x.leaders)
	}
	for _, what := range []string{"down", "behind a base", "committed", "terms"} {
		if seen[what] < 1000 {
			t.Errorf("%q was seen %d times only", what, seen[what])
		}
	}
}

// P11.2: what is proposed while no letter is lost is committed everywhere, in whatever order letters are taken, and however often.
func TestNothingLost(t *testing.T) {
	for seed := range int64(60) {
		x := newGame(t, seed, map[string]int{})
		n := x.elect()
		var want []string
		for k := range 30 {
			text := "text " + strconv.Itoa(k)
			x.do(api.Act{Kind: propose, A: n, Text: text})
			want = append(want, text)
			for range x.r.Intn(6) {
				x.do(act(take+x.r.Intn(2), x.r.Intn(100), 0))
			}
		}
		x.deliver()
		for m := range x.size {
			checkTexts(t, x.g, m, want...)
		}
	}
}
