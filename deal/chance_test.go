package deal_test

import (
	"math/rand"
	"slices"
	"strconv"
	"testing"

	"lintel/api"
	"lintel/deal"
)

// A sketch is a deal of the simplest kind: what it asks for is worked out of the effect, shard by shard, whenever somebody wants to know.
type sketch struct {
	effect   api.Effect
	bounds   []string
	until    int
	home     int
	only     int // the shard of a clearing; -1: it is none
	phase    int
	answered map[int]bool
	times    []int // those that were answered while preparing
	ts       int
	why      api.Errno
	known    bool
}

func newSketch(e api.Effect, bounds []string, until int) *sketch {
	k := &sketch{effect: e, bounds: bounds, until: until, only: -1, phase: 1, answered: map[int]bool{}}
	k.home = slices.Min(k.shards())
	return k
}

// owner answers a key's shard: as many bounds as are not above it.
func (k *sketch) owner(key string) int {
	n := 0
	for _, b := range k.bounds {
		if b <= key {
			n++
		}
	}
	return n
}

// cut answers what of a span a shard has.
func (k *sketch) cut(shard int, p api.Span) (api.Span, bool) {
	if shard > 0 && k.bounds[shard-1] > p.From {
		p.From = k.bounds[shard-1]
	}
	if shard < len(k.bounds) && k.bounds[shard] < p.To {
		p.To = k.bounds[shard]
	}
	return p, p.From < p.To
}

// reads and writes answer what the effect has in a shard.
func (k *sketch) reads(shard int) []api.Read {
	var list []api.Read
	for _, r := range k.effect.Reads {
		p, there := k.cut(shard, r.Span)
		if !there {
			continue
		}
		own := api.Read{Span: p}
		for _, s := range r.Seen {
			if k.owner(s.Key) == shard && s.Key >= r.Span.From && s.Key < r.Span.To {
				own.Seen = append(own.Seen, s)
			}
		}
		list = append(list, own)
	}
	return list
}

func (k *sketch) writes(shard int) []api.Write {
	var list []api.Write
	for _, w := range k.effect.Writes {
		if k.owner(w.Key) == shard {
			list = append(list, w)
		}
	}
	return list
}

// shards answers those that are prepared and resolved, rising.
func (k *sketch) shards() []int {
	if k.only >= 0 {
		return []int{k.only}
	}
	var list []int
	for i := range len(k.bounds) + 1 {
		if len(k.reads(i))+len(k.writes(i)) > 0 {
			list = append(list, i)
		}
	}
	if len(list) == 0 {
		return []int{0}
	}
	return list
}

func (k *sketch) asks() []deal.Ask {
	var list []deal.Ask
	switch {
	case k.phase == 2 && k.only >= 0:
		list = append(list, abort(k.home))
	case k.phase == 2:
		c := commit(k.home, slices.Max(k.times)+1)
		c.Command.Until = k.until
		list = append(list, c)
	}
	for _, i := range k.shards() {
		switch {
		case k.answered[i]:
		case k.phase == 1:
			p := prepare(k.home, i, k.reads(i), k.writes(i))
			p.Command.Until = k.until
			list = append(list, p)
		case k.phase == 3:
			list = append(list, resolve(k.home, i, k.ts))
		}
	}
	return list
}

func (k *sketch) end(ts int, why api.Errno) {
	k.ts, k.why, k.known = ts, why, true
	k.phase, k.answered = 3, map[int]bool{}
}

func (k *sketch) told(shard, kind int, r api.Result) {
	asked := slices.ContainsFunc(k.asks(), func(a deal.Ask) bool { return a.Shard == shard && a.Command.Kind == kind })
	if !asked || r.Ts < 0 || r.Ts > 1<<50 {
		return
	}
	switch {
	case kind == api.Abort && r.Err == api.OK:
		k.end(0, api.ErrOver)
	case kind == api.Abort && r.Err == api.ErrOver:
		k.end(r.Ts, api.OK)
	case kind == api.Abort:
	case kind == api.Resolve:
		k.answered[shard] = true
	case r.Err != api.OK:
		k.end(0, r.Err)
	case kind == api.Commit:
		k.end(r.Ts, api.OK)
	default:
		k.answered[shard] = true
		k.times = append(k.times, r.Ts)
	}
	if k.phase != 2 && len(k.asks()) == 0 {
		k.phase, k.answered = k.phase+1, map[int]bool{}
	}
}

func (k *sketch) late(now int) {
	if k.phase == 1 && now > k.until {
		k.end(0, api.ErrLate)
	}
}

func (k *sketch) state() state {
	return state{asks: plain(k.asks()), ts: k.ts, why: k.why, known: k.known, over: k.phase == 4}
}

// universe answers all keys that the tests by chance know, rising.
func universe() []string {
	list := []string{""}
	for _, a := range []string{"\x00", "a", "b", "\xff"} {
		list = append(list, a)
		for _, b := range []string{"\x00", "b"} {
			list = append(list, a+b)
		}
	}
	return list
}

// A draw is what the tests by chance draw of.
type draw struct {
	*rand.Rand
	keys []string
}

func newDraw(seed int64) draw { return draw{rand.New(rand.NewSource(seed)), universe()} }

func (x draw) key() string { return x.keys[x.Intn(len(x.keys))] }

func (x draw) span() api.Span {
	p := span(x.key(), x.key())
	if x.Intn(3) == 0 {
		p.To = p.From + "\x00"
	}
	return p
}

// bounds answers some that may be.
func (x draw) bounds() []string {
	var list []string
	for range x.Intn(api.MaxShards) {
		if b := x.key(); b != "" && !slices.Contains(list, b) {
			list = append(list, b)
		}
	}
	slices.Sort(list)
	return list
}

// effect answers one that was not read anywhere.
func (x draw) effect() api.Effect {
	var e api.Effect
	for range x.Intn(4) {
		r := api.Read{Span: x.span()}
		for range x.Intn(4) {
			r.Seen = append(r.Seen, stamp(x.key(), x.Intn(9)))
		}
		e.Reads = append(e.Reads, r)
	}
	for range x.Intn(4) {
		e.Writes = append(e.Writes, api.Write{Key: x.key(), Value: strconv.Itoa(x.Intn(9)), Dead: x.Intn(4) == 0})
	}
	return e
}

// result answers one that a shard may answer, most times, or one that none does.
func (x draw) result() api.Result {
	r := api.Result{Ts: x.Intn(20), New: x.Intn(2) == 0}
	switch x.Intn(8) {
	case 0:
		r.Err = errors[x.Intn(len(errors))]
	case 1:
		r.Ts = []int{-1, 1 << 50, 1<<50 + 1, 0}[x.Intn(4)]
	}
	return r
}

// step tells a deal and its sketch the same.
func (x draw) step(d *deal.Deal, k *sketch) {
	shard, kind, r := x.Intn(5), 1+x.Intn(4), x.result()
	if asks := k.asks(); len(asks) > 0 && x.Intn(3) > 0 {
		a := asks[x.Intn(len(asks))]
		shard, kind = a.Shard, a.Command.Kind
	}
	if x.Intn(12) == 0 {
		now := k.until + x.Intn(5) - 3
		d.Late(now)
		k.late(now)
		return
	}
	d.Told(shard, kind, r)
	k.told(shard, kind, r)
}

// P22.1 to P22.3: deals and clearings by chance, told by chance, ask and tell what their sketches do.
func TestAsTheSketch(t *testing.T) {
	ends := map[string]int{}
	for seed := range int64(6000) {
		x := newDraw(seed)
		bounds, e, until := x.bounds(), x.effect(), x.Intn(20)
		k := newSketch(e, bounds, until)
		d := deal.New(me, 4, 5, until, e, splitBy(t, bounds...))
		if x.Intn(4) == 0 {
			k.home, k.only, k.phase = x.Intn(4), x.Intn(4), 2
			d = deal.Clear(me, k.home, k.only)
		}
		for range 30 {
			checkState(t, d, k.state())
			x.step(d, k)
		}
		checkState(t, d, k.state())
		ends[strconv.Itoa(k.phase)+" "+strconv.Itoa(int(k.why))+" "+strconv.Itoa(len(k.shards()))]++
	}
	for _, what := range []string{"4 0 1", "4 0 2", "4 0 3", "4 0 4", "4 133 1", "4 133 4", "4 131 2", "4 132 1"} {
		if ends[what] == 0 {
			t.Errorf("no deal ended so: phase, error, shards: %s; but these: %v", what, ends)
		}
	}
}
