package agenda_test

import (
	"math"
	"math/rand"
	"slices"
	"testing"

	"lintel/agenda"
)

// dated is a thing with its time, as a test lays it down.
type dated struct{ what, due int }

func filled(list ...dated) *agenda.Agenda {
	a := agenda.New()
	for _, d := range list {
		a.Set(d.what, d.due)
	}
	return a
}

func checkLen(t *testing.T, a *agenda.Agenda, want int) {
	t.Helper()
	if got := a.Len(); got != want {
		t.Fatalf("Len: %d, not %d", got, want)
	}
}

func checkNext(t *testing.T, a *agenda.Agenda, what, due int) {
	t.Helper()
	if w, d, ok := a.Next(); w != what || d != due || !ok {
		t.Fatalf("Next: %d, %d, %v, not %d, %d, true", w, d, ok, what, due)
	}
}

func checkPop(t *testing.T, a *agenda.Agenda, now, what int) {
	t.Helper()
	if w, ok := a.Pop(now); w != what || !ok {
		t.Fatalf("Pop(%d): %d, %v, not %d, true", now, w, ok, what)
	}
}

func checkNoPop(t *testing.T, a *agenda.Agenda, now int) {
	t.Helper()
	if w, ok := a.Pop(now); w != 0 || ok {
		t.Fatalf("Pop(%d): %d, %v, not 0, false", now, w, ok)
	}
}

func checkEmpty(t *testing.T, a *agenda.Agenda) {
	t.Helper()
	checkLen(t, a, 0)
	if w, d, ok := a.Next(); w != 0 || d != 0 || ok {
		t.Fatalf("Next: %d, %d, %v, not 0, 0, false", w, d, ok)
	}
	for _, now := range []int{math.MinInt, -1, 0, 1, math.MaxInt} {
		checkNoPop(t, a, now)
	}
}

// checkDrain takes all away, one behind the other, and looks at each on its way.
func checkDrain(t *testing.T, a *agenda.Agenda, want ...dated) {
	t.Helper()
	for i, d := range want {
		checkLen(t, a, len(want)-i)
		checkNext(t, a, d.what, d.due)
		checkPop(t, a, d.due, d.what)
	}
	checkEmpty(t, a)
}

// P4.1, P4.2: the chapter's example, to its end.
func TestExample(t *testing.T) {
	a := filled(dated{7, 30}, dated{8, 20}, dated{9, 20})
	checkNext(t, a, 8, 20)
	checkNoPop(t, a, 19)
	checkPop(t, a, 25, 8)
	a.Set(9, 40)
	checkPop(t, a, 99, 7)
	checkDrain(t, a, dated{9, 40})
}

// P4.1: a new agenda has nothing, and two of them never meet.
func TestNewHasNothing(t *testing.T) {
	a, b := agenda.New(), agenda.New()
	if a == nil || b == nil || a == b {
		t.Fatal("New answered nil, or one agenda twice")
	}
	checkEmpty(t, a)
	a.Set(1, 10)
	a.Set(2, 20)
	checkEmpty(t, b)
	b.Set(1, 5)
	b.Drop(2)
	checkDrain(t, a, dated{1, 10}, dated{2, 20})
	checkDrain(t, b, dated{1, 5})
}

// P4.1: a thing that is set again is there once, at its new time alone.
func TestSetAgainMoves(t *testing.T) {
	a := filled(dated{1, 10}, dated{2, 20}, dated{3, 30})
	a.Set(1, 25)
	checkLen(t, a, 3)
	checkNext(t, a, 2, 20)
	a.Set(3, 5)
	checkLen(t, a, 3)
	checkNext(t, a, 3, 5)
	checkDrain(t, a, dated{3, 5}, dated{2, 20}, dated{1, 25})
}

// P4.1: a thing that is set alone, again and again, stays one.
func TestSetOneThingOften(t *testing.T) {
	a := agenda.New()
	for _, due := range []int{5, 9, 5, 5, -3, 0, 7} {
		a.Set(4, due)
		checkLen(t, a, 1)
		checkNext(t, a, 4, due)
	}
	checkDrain(t, a, dated{4, 7})
}

// P4.1: Drop takes just its thing away, wherever it stands; of what isn't there it takes nothing.
func TestDropAnyOne(t *testing.T) {
	all := []dated{{10, 1}, {11, 2}, {12, 3}, {13, 4}, {14, 5}, {15, 6}, {16, 7}}
	for i, gone := range all {
		a := filled(all...)
		a.Drop(gone.what)
		checkLen(t, a, len(all)-1)
		a.Drop(gone.what)
		a.Drop(0)
		a.Drop(gone.due)
		checkDrain(t, a, slices.Delete(slices.Clone(all), i, i+1)...)
	}
}

// P4.1: what was dropped or taken can be set again, as something new.
func TestSetAfterDropAndPop(t *testing.T) {
	a := filled(dated{1, 10}, dated{2, 10}, dated{3, 10})
	a.Drop(1)
	a.Set(1, 10)
	checkPop(t, a, 10, 2)
	a.Set(2, 10)
	checkDrain(t, a, dated{3, 10}, dated{1, 10}, dated{2, 10})
	a.Drop(1)
	a.Drop(2)
	checkEmpty(t, a)
	a.Set(2, 4)
	checkDrain(t, a, dated{2, 4})
}

// P4.2: of those due at one time the one set first comes first, whatever their numbers are.
func TestOneTimeGoesByTheOrderOfSets(t *testing.T) {
	whats := []int{5, 1, 9, -4, 0, 7, 3, 8, -1, 2, 6, 4}
	a := agenda.New()
	var want []dated
	for _, w := range whats {
		a.Set(w, 50)
		want = append(want, dated{w, 50})
	}
	checkDrain(t, a, want...)
}

// P4.2: set again counts as set then, at the same time too.
func TestSetAgainGoesBehind(t *testing.T) {
	a := filled(dated{1, 20}, dated{2, 20}, dated{3, 20})
	a.Set(1, 20)
	checkNext(t, a, 2, 20)
	checkDrain(t, a, dated{2, 20}, dated{3, 20}, dated{1, 20})

	b := filled(dated{1, 20}, dated{2, 20}, dated{3, 30})
	b.Set(1, 30)
	b.Set(1, 20)
	b.Set(3, 20)
	checkDrain(t, b, dated{2, 20}, dated{1, 20}, dated{3, 20})
}

// P4.2: Next takes nothing away.
func TestNextTakesNothing(t *testing.T) {
	a := filled(dated{3, 3}, dated{1, 1}, dated{2, 2})
	for range 5 {
		checkNext(t, a, 1, 1)
		checkLen(t, a, 3)
	}
	checkDrain(t, a, dated{1, 1}, dated{2, 2}, dated{3, 3})
}

// P4.2: Pop takes what is due at now and ahead of it, not what is due one later; a Pop that takes nothing changes nothing.
func TestPopAtItsTime(t *testing.T) {
	for _, due := range []int{math.MinInt + 1, -7, -1, 0, 1, 20, math.MaxInt} {
		a := filled(dated{6, due})
		checkNoPop(t, a, due-1)
		checkNoPop(t, a, math.MinInt)
		checkLen(t, a, 1)
		checkNext(t, a, 6, due)
		checkPop(t, a, due, 6)
		checkEmpty(t, a)
	}
	checkPop(t, filled(dated{6, math.MinInt}), math.MinInt, 6)
	checkPop(t, filled(dated{6, math.MinInt}), math.MaxInt, 6)
}

// P4.2: one Pop takes one thing, though more are due, and the first, though it is set last.
func TestPopTakesTheFirstAlone(t *testing.T) {
	a := filled(dated{1, 30}, dated{2, 20}, dated{3, 10})
	checkPop(t, a, 100, 3)
	checkPop(t, a, 100, 2)
	checkNoPop(t, a, 29)
	checkPop(t, a, 100, 1)
	checkEmpty(t, a)
}

// P4.2: the thing 0 at the time 0 is a thing; what tells it from nothing is true.
func TestThingZero(t *testing.T) {
	a := filled(dated{0, 0})
	checkLen(t, a, 1)
	checkNext(t, a, 0, 0)
	checkNoPop(t, a, -1)
	checkPop(t, a, 0, 0)
	checkEmpty(t, a)
}

// P4.2: the least and the greatest numbers there are stand in their order.
func TestNumbersAtTheEnds(t *testing.T) {
	a := filled(
		dated{math.MaxInt, math.MaxInt}, dated{math.MinInt, 0}, dated{1, math.MinInt},
		dated{2, math.MaxInt}, dated{3, 1}, dated{4, -1}, dated{5, math.MinInt},
	)
	checkDrain(t, a,
		dated{1, math.MinInt}, dated{5, math.MinInt}, dated{4, -1}, dated{math.MinInt, 0},
		dated{3, 1}, dated{math.MaxInt, math.MaxInt}, dated{2, math.MaxInt},
	)
}

// P4.3: a nil agenda does nothing and has nothing.
func TestNilAgenda(t *testing.T) {
	var a *agenda.Agenda
	checkEmpty(t, a)
	a.Set(1, 0)
	a.Drop(1)
	a.Drop(2)
	checkEmpty(t, a)
}

// Rule 1: an agenda that New didn't make doesn't panic; it has nothing until it is told.
func TestZeroAgenda(t *testing.T) {
	var a agenda.Agenda
	a.Drop(1)
	checkEmpty(t, &a)
	a.Set(2, 9)
	a.Set(1, 9)
	checkDrain(t, &a, dated{2, 9}, dated{1, 9})
}

// list is an agenda of the simplest kind: things in the order in which they were set.
type list []dated

func (l *list) drop(what int) {
	*l = slices.DeleteFunc(*l, func(d dated) bool { return d.what == what })
}

func (l *list) set(what, due int) {
	l.drop(what)
	*l = append(*l, dated{what, due})
}

func (l list) next() (dated, bool) {
	if len(l) == 0 {
		return dated{}, false
	}
	first := l[0]
	for _, d := range l {
		if d.due < first.due {
			first = d
		}
	}
	return first, true
}

func (l *list) pop(now int) (int, bool) {
	d, ok := l.next()
	if !ok || d.due > now {
		return 0, false
	}
	l.drop(d.what)
	return d.what, true
}

// P4.1, P4.2: calls of all kinds, mixed, answer as a plain list does; the numbers are few, so that things meet.
func TestAsAPlainList(t *testing.T) {
	for seed := range int64(60) {
		r := rand.New(rand.NewSource(seed))
		things, times := 1+r.Intn(40), 1+r.Intn(20)
		a, l := agenda.New(), list{}
		for step := range 600 {
			what, due := r.Intn(things)-things/2, r.Intn(times)-times/2
			switch r.Intn(6) {
			case 0, 1, 2:
				a.Set(what, due)
				l.set(what, due)
			case 3:
				a.Drop(what)
				l.drop(what)
			default:
				got, ok := a.Pop(due)
				want, there := l.pop(due)
				if got != want || ok != there {
					t.Fatalf("seed %d, step %d: Pop(%d): %d, %v, not %d, %v", seed, step, due, got, ok, want, there)
				}
			}
			w, d, ok := a.Next()
			want, there := l.next()
			if (dated{w, d}) != want || ok != there || a.Len() != len(l) {
				t.Fatalf("seed %d, step %d: Next: %d, %d, %v, Len %d, not %v, %v, %d", seed, step, w, d, ok, a.Len(), want, there, len(l))
			}
		}
	}
}

// P4.1, P4.2: many things, set from the last to the first, moved and dropped, come out in order in good time.
func TestManyThings(t *testing.T) {
	const many = 100000
	a := agenda.New()
	for i := range many {
		a.Set(i, many-i)
	}
	for i := range many {
		if i%2 == 0 {
			a.Set(i, i)
		} else {
			a.Drop(i)
		}
	}
	checkLen(t, a, many/2)
	for i := 0; i < many; i += 2 {
		checkPop(t, a, i, i)
	}
	checkEmpty(t, a)
}
