package ballot_test

import (
	"maps"
	"math/rand"
	"reflect"
	"slices"
	"strconv"
	"testing"

	"lintel/api"
	"lintel/ballot"
)

// sketch is a ballot of the simplest kind: entries by their numbers, and the chapter's words one behind the other.
type sketch struct {
	ballot.State
	id, size, baseTerm int
	snap               string
	log                map[int]api.Entry
	next, match        map[int]int
	votes              map[int]bool
	out                []api.Msg
	touched, based     bool
	changed            []int
}

func newSketch(id, size int) *sketch {
	return &sketch{State: ballot.State{Vote: -1, Lead: -1}, id: id, size: size, log: map[int]api.Entry{}, next: map[int]int{}, match: map[int]int{}, votes: map[int]bool{}}
}

func (k *sketch) send(m api.Msg) {
	m.From, m.Term = k.id, k.Term
	k.out = append(k.out, m)
}

func (k *sketch) sent() []api.Msg {
	out := k.out
	k.out = nil
	return out
}

func (k *sketch) others() []int {
	var list []int
	for n := range k.size {
		if n != k.id {
			list = append(list, n)
		}
	}
	return list
}

func (k *sketch) term(i int) int {
	if i == k.Base {
		return k.baseTerm
	}
	if e, ok := k.log[i]; ok {
		return e.Term
	}
	return -1
}

func (k *sketch) set(i int, e api.Entry) {
	for n := range maps.Clone(k.log) {
		if n >= i {
			delete(k.log, n)
		}
	}
	k.log[i] = e
	k.Last = i
	k.touched = true
	k.changed = append(k.changed, i)
}

func (k *sketch) feed(to int) {
	if k.next[to] <= k.Base {
		k.send(api.Msg{Kind: api.Give, To: to, Index: k.Base, Prev: k.baseTerm, Snap: k.snap})
		return
	}
	m := api.Msg{Kind: api.Feed, To: to, Index: k.next[to] - 1, Prev: k.term(k.next[to] - 1), Commit: k.Commit}
	for i := k.next[to]; i <= k.Last && len(m.List) < api.MaxFeed; i++ {
		m.List = append(m.List, k.log[i])
	}
	k.send(m)
}

func (k *sketch) feedAll() {
	for _, to := range k.others() {
		k.feed(to)
	}
}

func (k *sketch) settle() {
	best := k.Commit
	for i := k.Commit + 1; i <= k.Last; i++ {
		have := 1
		for _, n := range k.others() {
			if k.match[n] >= i {
				have++
			}
		}
		if have*2 > k.size && k.log[i].Term == k.Term {
			best = i
		}
	}
	if best > k.Commit {
		k.Commit = best
		k.feedAll()
	}
}

func (k *sketch) lead() {
	k.Role, k.Lead = leader, k.id
	for n := range k.size {
		k.next[n], k.match[n] = k.Last+1, 0
	}
	k.propose(0, 0, "")
}

func (k *sketch) propose(at, born int, text string) int {
	if k.Role != leader {
		return 0
	}
	k.set(k.Last+1, api.Entry{Term: k.Term, At: at, Born: born, Text: text})
	k.feedAll()
	k.settle()
	return k.Last
}

func (k *sketch) timeout() {
	if k.Role == leader {
		return
	}
	k.Term, k.Vote, k.Role, k.Lead, k.touched = k.Term+1, k.id, candidate, -1, true
	k.votes = map[int]bool{k.id: true}
	for _, to := range k.others() {
		k.send(api.Msg{Kind: api.Ask, To: to, Index: k.Last, Prev: k.term(k.Last)})
	}
	if k.size == 1 {
		k.lead()
	}
}

func (k *sketch) cut(i int, snap string) bool {
	if i <= k.Base || i > k.Commit {
		return false
	}
	k.baseTerm, k.Base, k.snap = k.term(i), i, snap
	k.touched, k.based = true, true
	for n := range maps.Clone(k.log) {
		if n <= i {
			delete(k.log, n)
		}
	}
	return true
}

func (k *sketch) letsBy(m api.Msg) bool {
	bad := func(n, least int) bool { return n < least || n > mostSent }
	if m.To != k.id || !slices.Contains(k.others(), m.From) || m.Kind < 1 || m.Kind > 5 || bad(m.Term, 1) || bad(m.Prev, 0) || bad(m.Commit, 0) {
		return true
	}
	return m.Kind == api.Fed && bad(m.Index, -1) || m.Kind != api.Fed && bad(m.Index, 0)
}

func (k *sketch) take(m api.Msg) {
	if k.letsBy(m) {
		return
	}
	if m.Term > k.Term {
		k.Term, k.Vote, k.Role, k.Lead, k.touched = m.Term, -1, follower, -1, true
	}
	old := m.Term < k.Term
	switch {
	case old && m.Kind == api.Ask:
		k.send(api.Msg{Kind: api.Vote, To: m.From})
	case old && (m.Kind == api.Feed || m.Kind == api.Give):
		k.send(api.Msg{Kind: api.Fed, To: m.From, Index: k.Last})
	case old:
	case m.Kind == api.Ask:
		mine := k.term(k.Last)
		good := (k.Vote < 0 || k.Vote == m.From) && (m.Prev > mine || m.Prev == mine && m.Index >= k.Last)
		if good {
			k.Vote, k.touched = m.From, true
		}
		k.send(api.Msg{Kind: api.Vote, To: m.From, Good: good})
	case m.Kind == api.Vote && k.Role == candidate && m.Good:
		k.votes[m.From] = true
		if 2*len(k.votes) > k.size {
			k.lead()
		}
	case m.Kind == api.Feed && k.Role != leader:
		k.Role, k.Lead = follower, m.From
		k.takeFeed(m)
	case m.Kind == api.Fed && k.Role == leader:
		k.takeFed(m)
	case m.Kind == api.Give && k.Role != leader:
		k.Role, k.Lead = follower, m.From
		k.takeGive(m)
	}
}

func (k *sketch) takeFeed(m api.Msg) {
	end := m.Index + len(m.List)
	if end > k.Commit && m.Index >= k.Commit && (m.Index > k.Last || k.term(m.Index) != m.Prev) {
		k.send(api.Msg{Kind: api.Fed, To: m.From, Index: min(k.Last, m.Index-1)})
		return
	}
	for n, e := range m.List {
		if i := m.Index + 1 + n; i > k.Commit && (i > k.Last || k.log[i].Term != e.Term) {
			for _, e := range m.List[n:] {
				k.set(i, e)
				i++
			}
			break
		}
	}
	k.Commit = max(k.Commit, min(m.Commit, end))
	k.send(api.Msg{Kind: api.Fed, To: m.From, Index: end, Good: true})
}

func (k *sketch) takeFed(m api.Msg) {
	had := k.match[m.From]
	if !m.Good {
		k.next[m.From] = max(min(m.Index+1, k.next[m.From]-1), had+1)
		k.feed(m.From)
		return
	}
	if m.Index > had {
		k.match[m.From] = min(m.Index, k.Last)
	}
	k.next[m.From] = k.match[m.From] + 1
	k.settle()
	if k.match[m.From] > had && k.next[m.From] <= k.Last {
		k.feed(m.From)
	}
}

func (k *sketch) takeGive(m api.Msg) {
	if m.Index > k.Commit {
		same := m.Index <= k.Last && k.term(m.Index) == m.Prev
		for n := range maps.Clone(k.log) {
			if n <= m.Index || !same {
				delete(k.log, n)
			}
		}
		k.Base, k.baseTerm, k.snap, k.Commit = m.Index, m.Prev, m.Snap, m.Index
		k.Last = k.Base + len(k.log)
		k.touched, k.based = true, true
	}
	k.send(api.Msg{Kind: api.Fed, To: m.From, Index: m.Index, Good: true})
}

func (k *sketch) delta() (api.Delta, bool) {
	if !k.touched {
		return api.Delta{}, false
	}
	d := api.Delta{Term: k.Term, Vote: k.Vote, From: k.Last + 1}
	if len(k.changed) > 0 {
		d.From = slices.Min(k.changed)
	}
	if k.based {
		d.Whole, d.Base, d.BaseTerm, d.Snap, d.From = true, k.Base, k.baseTerm, k.snap, k.Base+1
	}
	for i := d.From; i <= k.Last; i++ {
		d.List = append(d.List, k.log[i])
	}
	k.touched, k.based, k.changed = false, false, nil
	return d, true
}

// entriesOf answers the log, rising.
func (k *sketch) entriesOf() []api.Entry {
	var list []api.Entry
	for i := k.Base + 1; i <= k.Last; i++ {
		list = append(list, k.log[i])
	}
	return list
}

// reload makes a sketch what is left of it in deltas.
func (k *sketch) reload() *sketch {
	next := newSketch(k.id, k.size)
	next.Term, next.Vote, next.Base, next.Last, next.Commit = k.Term, k.Vote, k.Base, k.Last, k.Base
	next.baseTerm, next.snap, next.log = k.baseTerm, k.snap, k.log
	return next
}

// P9.1 to P9.4: calls of all kinds, mixed, answer as the chapter's words do, done in the simplest way.
func TestAsASketch(t *testing.T) {
	seen := map[int]int{}
	for seed := range int64(1500) {
		r := rand.New(rand.NewSource(seed))
		size := 1 + r.Intn(5)
		id := r.Intn(size)
		b, k := made(t, id, size), newSketch(id, size)
		var kept []api.Delta
		for step := range 200 {
			var got []api.Msg
			switch kind := r.Intn(40); {
			case kind < 3:
				got = b.Timeout()
				k.timeout()
			case kind < 4:
				got = b.Beat()
				if k.Role == leader {
					k.feedAll()
				}
			case kind < 8:
				at, born, text := r.Int(), r.Int(), strconv.Itoa(step)
				n, l := b.Propose(at, born, text)
				if want := k.propose(at, born, text); n != want {
					t.Fatalf("seed %d, step %d: Propose: %d, not %d", seed, step, n, want)
				}
				got = l
			case kind < 10:
				i, snap := k.Base+r.Intn(k.Last-k.Base+2), strconv.Itoa(step)
				if ok, want := b.Cut(i, snap), k.cut(i, snap); ok != want {
					t.Fatalf("seed %d, step %d: Cut(%d): %v, not %v", seed, step, i, ok, want)
				}
			case kind < 11 && !k.touched:
				b, k = loaded(t, id, size, kept...), k.reload()
			case kind < 16:
				// Votes, so that there are leaders.
				m := api.Msg{Kind: api.Vote, From: r.Intn(size), To: id, Term: k.Term, Good: true}
				got = b.Take(m)
				k.take(m)
			default:
				m := fitting(r, b, chance(r, id, size, k.State))
				got = b.Take(m)
				k.take(m)
			}
			for _, m := range got {
				seen[m.Kind]++
			}
			if want := k.sent(); !reflect.DeepEqual(plain(got), plain(want)) {
				t.Fatalf("seed %d, step %d: messages:\n%+v, not\n%+v", seed, step, got, want)
			}
			checkState(t, b, k.State)
			checkLog(t, b, k.Base, k.entriesOf()...)
			if b.Snap() != k.snap {
				t.Fatalf("seed %d, step %d: Snap: %q, not %q", seed, step, b.Snap(), k.snap)
			}
			if r.Intn(3) == 0 {
				d, ok := b.Delta()
				want, there := k.delta()
				if len(d.List) == 0 {
					d.List = nil
				}
				if ok != there || !reflect.DeepEqual(d, want) {
					t.Fatalf("seed %d, step %d: Delta:\n%+v, %v, not\n%+v, %v", seed, step, d, ok, want, there)
				}
				if ok {
					kept = append(kept, d)
				}
			}
		}
	}
	for kind := api.Ask; kind <= api.Give; kind++ {
		if seen[kind] < 100 {
			t.Errorf("of the kind %d only %d messages went", kind, seen[kind])
		}
	}
}

// party is ballots that send one another messages, which are lost, doubled and late.
type party struct {
	t       *testing.T
	r       *rand.Rand
	ballots []*ballot.Ballot
	kept    [][]api.Delta
	under   []api.Msg
	leaders map[int]int
	texts   map[int]api.Entry
	born    int
}

func newParty(t *testing.T, seed int64) *party {
	p := &party{t: t, r: rand.New(rand.NewSource(seed)), leaders: map[int]int{}, texts: map[int]api.Entry{}}
	size := 1 + p.r.Intn(5)
	for id := range size {
		p.ballots = append(p.ballots, made(t, id, size))
	}
	p.kept = make([][]api.Delta, size)
	return p
}

// did keeps a node's delta, lets its messages go, and looks at what must hold.
func (p *party) did(n int, out []api.Msg) {
	b := p.ballots[n]
	if d, ok := b.Delta(); ok {
		p.kept[n] = append(p.kept[n], d)
	}
	p.under = append(p.under, out...)
	s := b.Stand()
	if s.Role == leader {
		if had, ok := p.leaders[s.Term]; ok && had != n {
			p.t.Fatalf("%d and %d lead in the term %d", had, n, s.Term)
		}
		p.leaders[s.Term] = n
	}
	for i := s.Base + 1; i <= s.Commit; i++ {
		e, _ := b.Entry(i)
		if had, ok := p.texts[i]; ok && had != e {
			p.t.Fatalf("the entry %d is %v, and was %v", i, e, had)
		}
		p.texts[i] = e
	}
}

func (p *party) timeout(n int) { p.did(n, p.ballots[n].Timeout()) }

func (p *party) propose(n int) {
	p.born++
	_, out := p.ballots[n].Propose(0, p.born, strconv.Itoa(p.born))
	p.did(n, out)
}

func (p *party) deliver(i int, stays bool) {
	m := p.under[i]
	if !stays {
		p.under = slices.Delete(p.under, i, i+1)
	}
	p.did(m.To, p.ballots[m.To].Take(m))
}

func (p *party) restart(n int) {
	p.ballots[n] = loaded(p.t, n, len(p.ballots), p.kept[n]...)
	p.did(n, nil)
}

func (p *party) step() {
	n := p.r.Intn(len(p.ballots))
	switch kind := p.r.Intn(100); {
	case kind < 4:
		p.timeout(n)
	case kind < 8:
		p.did(n, p.ballots[n].Beat())
	case kind < 20:
		p.propose(n)
	case kind < 22:
		p.restart(n)
	case kind < 26:
		s := p.ballots[n].Stand()
		p.ballots[n].Cut(s.Commit-p.r.Intn(3), "snap")
		p.did(n, nil)
	case len(p.under) == 0:
	case kind < 30:
		p.under = slices.Delete(p.under, 0, 1)
	default:
		p.deliver(p.r.Intn(len(p.under)), kind < 36)
	}
	if len(p.under) > 60 {
		p.under = p.under[len(p.under)-60:]
	}
}

// calm delivers all messages, in their order, while they come to an end.
func (p *party) calm() {
	for range 10000 {
		if len(p.under) == 0 {
			return
		}
		p.deliver(0, false)
	}
	p.t.Fatal("messages without an end")
}

// P9.1, P9.5: in a group of ballots, whatever becomes of messages and nodes, one leads in a term and all commit the same; when nothing goes wrong any more, what is proposed is committed everywhere.
func TestParty(t *testing.T) {
	for seed := range int64(400) {
		p := newParty(t, seed)
		for range 600 {
			p.step()
		}
		p.calm()
		lead := -1
		for round := 0; lead < 0; round++ {
			n := round % len(p.ballots)
			p.timeout(n)
			p.calm()
			if p.ballots[n].Stand().Role == leader {
				lead = n
			}
			if round > 200 {
				t.Fatalf("seed %d: nobody leads", seed)
			}
		}
		p.propose(lead)
		p.calm()
		want := p.ballots[lead].Stand()
		last, ok := p.ballots[lead].Entry(want.Last)
		if want.Commit != want.Last || !ok || last.Born != p.born {
			t.Fatalf("seed %d: what was proposed isn't committed: %+v", seed, want)
		}
		for n, b := range p.ballots {
			if s := b.Stand(); s.Commit != want.Commit || s.Last != want.Last || s.Term != want.Term || s.Lead != lead {
				t.Fatalf("seed %d: the node %d stands at %+v, the leader at %+v", seed, n, s, want)
			}
		}
	}
}

// P9.1: a node without a log gets the whole of a long one, by the messages that its first answer leads to.
func TestCatchUp(t *testing.T) {
	for _, cut := range []int{0, 5, 100, 150} {
		p := &party{t: t, leaders: map[int]int{}, texts: map[int]api.Entry{}, kept: make([][]api.Delta, 3)}
		for id := range 3 {
			p.ballots = append(p.ballots, made(t, id, 3))
		}
		p.timeout(0)
		without := func(n int) {
			for len(p.under) > 0 {
				if p.under[0].To == n {
					p.under = p.under[1:]
				} else {
					p.deliver(0, false)
				}
			}
		}
		for range 150 {
			without(2)
			p.propose(0)
		}
		without(2)
		if ok := p.ballots[0].Cut(cut, "snap"); ok != (cut > 0) {
			t.Fatalf("Cut(%d): %v", cut, ok)
		}
		p.did(0, p.ballots[0].Beat())
		p.calm()
		want := p.ballots[0].Stand()
		if s := p.ballots[2].Stand(); s.Last != 151 || s.Commit != want.Commit || s.Base != cut {
			t.Fatalf("it stands at %+v, the leader at %+v", s, want)
		}
	}
}
