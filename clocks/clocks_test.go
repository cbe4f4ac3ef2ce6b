package clocks_test

import (
	"math"
	"math/rand"
	"testing"

	"lintel/api"
	"lintel/clocks"
)

const (
	mostApart = 1 << 30
	lastTime  = 1 << 50
)

func made(t *testing.T, n, most int) *clocks.Clocks {
	t.Helper()
	c, err := clocks.New(n, most)
	if c == nil || err != api.OK {
		t.Fatalf("New(%d, %d): %v, %d, not clocks, OK", n, most, c, err)
	}
	return c
}

func checkTick(t *testing.T, c *clocks.Clocks, i, by, want int) {
	t.Helper()
	if got := c.Tick(i, by); got != want {
		t.Fatalf("Tick(%d, %d): %d, not %d", i, by, got, want)
	}
}

// checkTimes looks at all clocks, and at the numbers beside theirs; it changes nothing.
func checkTimes(t *testing.T, c *clocks.Clocks, want ...int) {
	t.Helper()
	for i, time := range want {
		if got := c.Now(i); got != time {
			t.Fatalf("Now(%d): %d, not %d", i, got, time)
		}
	}
	n := len(want)
	for _, i := range []int{math.MinInt, -n - 1, -n, -1, n, n + 1, api.MaxNodes, api.MaxNodes + 1, math.MaxInt} {
		if 0 <= i && i < n {
			continue
		}
		if got := c.Now(i); got != 0 {
			t.Fatalf("Now(%d): %d, where there is no clock", i, got)
		}
		for _, by := range []int{1, math.MaxInt} {
			checkTick(t, c, i, by, 0)
		}
	}
}

// P8.1, P8.2: the chapter's example.
func TestExample(t *testing.T) {
	c := made(t, 2, 3)
	checkTick(t, c, 0, 9, 3)
	checkTick(t, c, 0, 1, 0)
	checkTick(t, c, 1, 2, 2)
	checkTick(t, c, 0, 9, 2)
	checkTimes(t, c, 5, 2)
}

// P8.1: as many clocks as asked for, all at 0, and each of them goes.
func TestNewIsAtZero(t *testing.T) {
	for n := 1; n <= api.MaxNodes; n++ {
		for _, most := range []int{1, 2, api.Skew, mostApart - 1, mostApart} {
			c := made(t, n, most)
			want := make([]int, n)
			checkTimes(t, c, want...)
			for i := range n {
				checkTick(t, c, i, 1, 1)
				want[i] = 1
				checkTimes(t, c, want...)
			}
		}
	}
}

// P8.1: numbers of clocks and bounds that may not be.
func TestNewRefuses(t *testing.T) {
	wrongN := []int{math.MinInt, -5, -1, 0, api.MaxNodes + 1, 1 << 32, 1<<32 + 1, math.MaxInt}
	wrongMost := []int{math.MinInt, -mostApart, -1, 0, mostApart + 1, 1 << 32, 1<<32 + 1, math.MaxInt}
	check := func(n, most int) {
		t.Helper()
		if c, err := clocks.New(n, most); c != nil || err != api.ErrArg {
			t.Fatalf("New(%d, %d): %v, %d, not nil, ErrArg", n, most, c, err)
		}
	}
	for _, n := range wrongN {
		for _, most := range []int{1, api.Skew, mostApart} {
			check(n, most)
		}
		for _, most := range wrongMost {
			check(n, most)
		}
	}
	for n := 1; n <= api.MaxNodes; n++ {
		for _, most := range wrongMost {
			check(n, most)
		}
	}
}

// P8.2: a clock goes on by what it is told, up to the bound above the least, and no other clock moves.
func TestTickUpToTheBound(t *testing.T) {
	for _, most := range []int{1, 2, 10, mostApart} {
		for n := 2; n <= api.MaxNodes; n++ {
			for i := range n {
				for _, by := range []int{1, most - 1, most, most + 1, 2 * most, 1 << 51, math.MaxInt - 1, math.MaxInt} {
					if by < 1 {
						continue
					}
					c := made(t, n, most)
					want := make([]int, n)
					want[i] = min(by, most)
					checkTick(t, c, i, by, want[i])
					checkTimes(t, c, want...)
					checkTick(t, c, i, math.MaxInt, most-want[i])
					checkTick(t, c, i, 1, 0)
					want[i] = most
					checkTimes(t, c, want...)
				}
			}
		}
	}
}

// P8.2: nothing goes on by a number below 1.
func TestTickBelowOne(t *testing.T) {
	c := made(t, 2, 10)
	checkTick(t, c, 0, 7, 7)
	checkTick(t, c, 1, 4, 4)
	for _, by := range []int{0, -1, -4, -7, -10, -lastTime, math.MinInt + 1, math.MinInt} {
		for i := range 2 {
			checkTick(t, c, i, by, 0)
			checkTimes(t, c, 7, 4)
		}
	}
}

// P8.2: the least clock is held by where it stood itself, not by the one that is next to it.
func TestLeastHoldsItself(t *testing.T) {
	c := made(t, 3, 10)
	checkTick(t, c, 0, 9, 9)
	checkTick(t, c, 1, 10, 10)
	checkTick(t, c, 2, 99, 10)
	checkTimes(t, c, 9, 10, 10)
	checkTick(t, c, 0, 99, 10)
	checkTimes(t, c, 19, 10, 10)
	checkTick(t, c, 0, 99, 1)
	checkTick(t, c, 0, 99, 0)
	checkTick(t, c, 2, 99, 10)
	checkTimes(t, c, 20, 10, 20)
}

// P8.2: a clock that is alone goes on by no more than the bound at one time, as often as it is told.
func TestOneClock(t *testing.T) {
	c := made(t, 1, 3)
	for i := range 100 {
		checkTimes(t, c, 3*i)
		checkTick(t, c, 0, 4, 3)
	}
	checkTick(t, c, 0, 2, 2)
	checkTimes(t, c, 302)
}

// late answers clocks that all stand at a time which is a number of mostApart.
func late(t *testing.T, n, time int) *clocks.Clocks {
	t.Helper()
	c := made(t, n, mostApart)
	for range time / mostApart {
		for i := range n {
			checkTick(t, c, i, math.MaxInt, mostApart)
		}
	}
	return c
}

// P8.2: a clock may come to 2^50; what would bring it above that moves it not at all.
func TestLastTime(t *testing.T) {
	c := late(t, 1, lastTime-mostApart)
	checkTick(t, c, 0, mostApart-5, mostApart-5)
	for _, by := range []int{6, 7, mostApart, mostApart + 1, lastTime, math.MaxInt} {
		checkTick(t, c, 0, by, 0)
		checkTimes(t, c, lastTime-5)
	}
	checkTick(t, c, 0, 4, 4)
	checkTick(t, c, 0, 2, 0)
	checkTick(t, c, 0, 1, 1)
	for _, by := range []int{1, 2, math.MaxInt} {
		checkTick(t, c, 0, by, 0)
		checkTimes(t, c, lastTime)
	}
}

// P8.2: where the least clock lets another one come to 2^50 and no further, it comes there, whatever it is told.
func TestLastTimeBehindTheLeast(t *testing.T) {
	c := late(t, 2, lastTime-mostApart)
	checkTick(t, c, 0, mostApart-5, mostApart-5)
	checkTick(t, c, 0, math.MaxInt, 5)
	checkTimes(t, c, lastTime, lastTime-mostApart)
	checkTick(t, c, 0, 1, 0)
	checkTick(t, c, 1, 1, 1)
	checkTick(t, c, 0, 1, 0)
	checkTick(t, c, 1, math.MaxInt, 0)
	checkTick(t, c, 1, mostApart-1, mostApart-1)
	checkTimes(t, c, lastTime, lastTime)
}

// apart answers by how much the clocks differ.
func apart(times []int) int {
	least, greatest := times[0], times[0]
	for _, time := range times {
		least, greatest = min(least, time), max(greatest, time)
	}
	return greatest - least
}

// walk is Tick, one step after another: a step is taken while the clock stands below the bound above the least as it was.
func walk(times []int, i, by, most int) int {
	bound := times[0]
	for _, time := range times {
		bound = min(bound, time)
	}
	bound += most
	went := 0
	for went < by && times[i] < bound {
		times[i]++
		went++
	}
	return went
}

// P8.2, P8.3: any calls answer as clocks do that go step by step; no two differ by more than the bound.
func TestAsStepByStep(t *testing.T) {
	for seed := range int64(200) {
		r := rand.New(rand.NewSource(seed))
		n, most := 1+r.Intn(api.MaxNodes), 1+r.Intn(12)
		c, times := made(t, n, most), make([]int, n)
		for range 200 {
			i, by := r.Intn(n), r.Intn(2*most+4)-2
			checkTick(t, c, i, by, walk(times, i, by, most))
			checkTimes(t, c, times...)
			if apart(times) > most {
				t.Fatalf("seed %d: %v differ by more than %d", seed, times, most)
			}
		}
	}
}

// P8.3: no clock goes back, and no two differ by more than the bound, at numbers of all sizes.
func TestNeverBackNorApart(t *testing.T) {
	for seed := range int64(200) {
		r := rand.New(rand.NewSource(seed))
		n, most := 1+r.Intn(api.MaxNodes), 1+r.Intn(mostApart>>r.Intn(31))
		c, times := made(t, n, most), make([]int, n)
		for range 300 {
			i, by := r.Intn(n), int(r.Uint64()>>r.Intn(64))
			went := c.Tick(i, by)
			if went < 0 || went > max(by, 0) || went > most {
				t.Fatalf("seed %d: Tick(%d, %d): %d, of a bound of %d", seed, i, by, went, most)
			}
			times[i] += went
			checkTimes(t, c, times...)
			if apart(times) > most {
				t.Fatalf("seed %d: %v differ by more than %d", seed, times, most)
			}
		}
	}
}

// P8.4: nil has no clocks.
func TestNilClocks(t *testing.T) {
	var c *clocks.Clocks
	checkTimes(t, c)
	for i := -1; i <= api.MaxNodes; i++ {
		for _, by := range []int{math.MinInt, -1, 0, 1, math.MaxInt} {
			checkTick(t, c, i, by, 0)
			checkTimes(t, c)
		}
	}
}

// Rule 1: Clocks that New didn't make don't panic; there are none.
func TestZeroClocks(t *testing.T) {
	var c clocks.Clocks
	checkTimes(t, &c)
	checkTick(t, &c, 0, 1, 0)
	checkTimes(t, &c)
}

// Rule 7: two Clocks never meet.
func TestTwoNeverMeet(t *testing.T) {
	a, b := made(t, 2, 3), made(t, 2, 5)
	checkTick(t, a, 0, 9, 3)
	checkTimes(t, b, 0, 0)
	checkTick(t, b, 1, 9, 5)
	checkTimes(t, a, 3, 0)
	checkTimes(t, b, 0, 5)
}
