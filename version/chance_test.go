package version_test

import (
	"cmp"
	"math/rand"
	"slices"
	"strconv"
	"testing"

	"lintel/api"
	"lintel/version"
)

// written is a version with its key.
type written struct {
	key string
	v   api.Version
}

// sketch is a store of the simplest kind: all that was written, in the order in which it came.
type sketch []written

func (k sketch) newest(key string) int {
	last := 0
	for _, w := range k {
		if w.key == key {
			last = max(last, w.v.Ts)
		}
	}
	return last
}

func (k *sketch) put(key string, v api.Version) api.Errno {
	if v.Ts < 1 {
		return api.ErrArg
	}
	if k.newest(key) >= v.Ts {
		return api.ErrOld
	}
	*k = append(*k, written{key, v})
	return api.OK
}

func (k sketch) span(p api.Span, ts int) []api.Hit {
	found := map[string]api.Version{}
	for _, w := range k {
		if p.From <= w.key && w.key < p.To && w.v.Ts <= ts {
			found[w.key] = w.v
		}
	}
	var list []api.Hit
	for key, v := range found {
		if !v.Dead {
			list = append(list, api.Hit{Key: key, Ts: v.Ts, Value: v.Value})
		}
	}
	slices.SortFunc(list, func(a, b api.Hit) int { return cmp.Compare(a.Key, b.Key) })
	return list
}

func (k sketch) rows() []api.Row {
	found := map[string][]api.Version{}
	for _, w := range k {
		found[w.key] = append(found[w.key], w.v)
	}
	var list []api.Row
	for key, versions := range found {
		list = append(list, api.Row{Key: key, List: versions})
	}
	slices.SortFunc(list, func(a, b api.Row) int { return cmp.Compare(a.Key, b.Key) })
	return list
}

// chanceKey answers a key of few, so that they meet: some without a byte, some that begin as others do.
func chanceKey(r *rand.Rand) string {
	key := make([]byte, r.Intn(4))
	for i := range key {
		key[i] = "\x00am\xff"[r.Intn(4)]
	}
	return string(key)
}

func chanceVersion(r *rand.Rand, most int) api.Version {
	return api.Version{Ts: r.Intn(most+2) - 1, Value: strconv.Itoa(r.Intn(100)), Dead: r.Intn(3) == 0}
}

// P12.1, P12.2, P12.4: calls of all kinds, mixed, answer as the sketch does; now and then a store is loaded from its own Rows (P12.3).
func TestAsTheSketch(t *testing.T) {
	for seed := range int64(40) {
		r := rand.New(rand.NewSource(seed))
		most := 3 + r.Intn(60)
		s, k := version.New(), sketch{}
		for range 250 {
			key, v := chanceKey(r), chanceVersion(r, most)
			checkPut(t, s, key, v, k.put(key, v))
			other := chanceKey(r)
			checkNewest(t, s, other, k.newest(other))
			p, ts := api.Span{From: chanceKey(r), To: chanceKey(r)}, r.Intn(most+4)-2
			checkSpan(t, s, p, ts, k.span(p, ts)...)
			checkSpan(t, s, all, ts, k.span(all, ts)...)
			if r.Intn(20) == 0 {
				checkRows(t, s, k.rows()...)
				s = loaded(t, s.Rows()...)
			}
		}
		checkRows(t, s, k.rows()...)
	}
}

// P12.3: Load takes just those lists whose versions could have been put, key by key, in their order.
func TestLoadTakesWhatCouldBePut(t *testing.T) {
	taken := 0
	for seed := range int64(4000) {
		r := rand.New(rand.NewSource(seed))
		var list []api.Row
		could, last := true, ""
		k := sketch{}
		for i := range r.Intn(4) {
			row := api.Row{Key: chanceKey(r)}
			for range r.Intn(4) {
				row.List = append(row.List, chanceVersion(r, 9))
			}
			could = could && len(row.List) > 0 && (i == 0 || row.Key > last)
			for _, v := range row.List {
				could = k.put(row.Key, v) == api.OK && could
			}
			last = row.Key
			list = append(list, row)
		}
		if !could {
			checkNoLoad(t, "by chance", list...)
			continue
		}
		checkRows(t, loaded(t, list...), list...)
		if len(list) > 1 {
			taken++
		}
	}
	if taken == 0 {
		t.Fatal("no list of several rows was taken")
	}
}

// P12.1, P12.2: many keys, from the last to the first, and many versions of one are found in good time.
func TestMany(t *testing.T) {
	const many = 30000
	s := version.New()
	key := func(i int) string { return strconv.Itoa(many + i) }
	for i := many - 1; i >= 0; i-- {
		checkPut(t, s, key(i), live(1, "x"), api.OK)
		checkPut(t, s, "", live(many-i, "y"), api.OK)
	}
	for i := range many {
		checkNewest(t, s, key(i), 1)
		checkSpan(t, s, api.Span{From: key(i), To: key(i) + "\x00"}, 1, api.Hit{Key: key(i), Ts: 1, Value: "x"})
		checkSpan(t, s, api.Span{To: "\x00"}, i+1, api.Hit{Ts: i + 1, Value: "y"})
	}
	if got := len(s.Rows()); got != many+1 {
		t.Fatalf("Rows: %d, not %d", got, many+1)
	}
	checkRows(t, loaded(t, s.Rows()...), s.Rows()...)
}
