package exec_test

import (
	"maps"
	"math/rand"
	"slices"
	"testing"

	"lintel/api"
	"lintel/exec"
	"lintel/rows"
	"lintel/value"
)

// A ledger is a store without indexes and keys: of each table its rows, by their key values, each by its columns' ids. It knows nothing of what is read.
type ledger struct {
	schema api.Schema
	rows   map[int]map[api.Value]map[int]api.Value
}

// newLedger answers the ledger of a shop's rows.
func newLedger(s api.Schema, r *shop) *ledger {
	l := &ledger{s, map[int]map[api.Value]map[int]api.Value{}}
	for _, t := range s.Tables {
		l.rows[t.Id] = map[api.Value]map[int]api.Value{}
		for _, h := range r.shown(rows.Table(t.Id)) {
			row := map[int]api.Value{}
			list, _ := rows.Get(h.Value)
			for _, c := range list {
				row[c.Id] = c.Value
			}
			l.rows[t.Id][row[t.Columns[0].Id]] = row
		}
	}
	return l
}

// meant answers the key values of the rows that are meant, in order.
func (l *ledger) meant(b api.Bound) []api.Value {
	var out []api.Value
	for k, row := range l.rows[b.Table] {
		if b.Where == 0 || row[b.Where] == b.Is {
			out = append(out, k)
		}
	}
	slices.SortFunc(out, value.Compare)
	return out
}

// breaks answers what a new row, or one that was old, breaks: a unique index, as if it looked at all rows, or a foreign key.
func (l *ledger) breaks(t api.Table, old, new map[int]api.Value) api.Errno {
	k := new[t.Columns[0].Id]
	for _, x := range t.Indexes {
		for other, row := range l.rows[t.Id] {
			v := new[x.Column]
			if x.Unique && x.State != api.DeleteOnly && other != k && row[x.Column] == v && v != (api.Value{}) && v != old[x.Column] {
				return api.ErrTwice
			}
		}
	}
	for _, f := range t.Keys {
		v := new[f.Column]
		_, there := l.rows[f.Parent][v]
		if f.State != api.DeleteOnly && !there && (f.Parent != t.Id || v != k) && v != (api.Value{}) && v != old[f.Column] {
			return api.ErrParent
		}
	}
	return api.OK
}

// named tells whether another row names the one with that key value.
func (l *ledger) named(table int, k api.Value) bool {
	for _, t := range l.schema.Tables {
		for _, f := range t.Keys {
			for other, row := range l.rows[t.Id] {
				if f.State != api.DeleteOnly && f.Parent == table && row[f.Column] == k && (t.Id != table || other != k) {
					return true
				}
			}
		}
	}
	return false
}

func (l *ledger) do(b api.Bound) (api.Reply, api.Errno) {
	if b.Where == 77 || b.Kind > api.Select {
		return api.Reply{}, api.ErrArg
	}
	t := l.schema.Tables[slices.IndexFunc(l.schema.Tables, func(t api.Table) bool { return t.Id == b.Table })]
	columns, list := public(t), l.meant(b)
	if b.Kind == api.Insert {
		list = b.Values[:1]
		if l.rows[t.Id][list[0]] != nil {
			return api.Reply{}, api.ErrTwice
		}
	}
	out := api.Reply{N: len(list)}
	if b.Kind == api.Select {
		out.N = 0
	}
	for _, k := range list {
		old := l.rows[t.Id][k]
		if b.Kind == api.Select {
			var told []api.Value
			for _, c := range columns {
				told = append(told, old[c.Id])
			}
			out.Rows = append(out.Rows, told)
			continue
		}
		if b.Kind == api.Delete {
			if l.named(t.Id, k) {
				return out, api.ErrChild
			}
			delete(l.rows[t.Id], k)
			continue
		}
		new := map[int]api.Value{}
		for _, c := range t.Columns {
			if c.State == api.WriteOnly {
				new[c.Id] = c.Default
			}
		}
		maps.Copy(new, old)
		for i, v := range b.Values {
			new[columns[i].Id] = v
		}
		if b.Kind == api.Update {
			new[b.Set] = b.To
		}
		if err := l.breaks(t, old, new); err != api.OK {
			return out, err
		}
		l.rows[t.Id][k] = new
	}
	return out, api.OK
}

// wrote answers the shop with what was written.
func (s *shop) wrote(list []api.Write) *shop {
	out := &shop{hits: maps.Clone(s.hits)}
	for _, w := range list {
		if w.Dead {
			delete(out.hits, w.Key)
		} else {
			out.lay(w.Key, w.Value)
		}
	}
	return out
}

// checkIs looks whether a shop has just the ledger's rows, and of the indexes that count just their entries.
func (l *ledger) checkIs(t *testing.T, r *shop) {
	t.Helper()
	want := newShop()
	for _, table := range l.schema.Tables {
		for k, row := range l.rows[table.Id] {
			var list []api.Cell
			for id, v := range row {
				list = append(list, cell(id, v))
			}
			want.row(table.Id, list...)
			for _, x := range table.Indexes {
				want.entry(x.Id, row[x.Column], k)
			}
		}
	}
	for _, table := range l.schema.Tables {
		checkKeys(t, r, want, rows.Table(table.Id))
		for _, x := range table.Indexes {
			if x.State != api.DeleteOnly {
				checkKeys(t, r, want, rows.Index(x.Id))
			}
		}
	}
}

func checkKeys(t *testing.T, got, want *shop, p api.Span) {
	t.Helper()
	is := func(a, b api.Hit) bool { return a.Key == b.Key && a.Value == b.Value }
	if !slices.EqualFunc(got.shown(p), want.shown(p), is) {
		t.Fatalf("there is\n%+v, not\n%+v", got.shown(p), want.shown(p))
	}
}

// P21.1, P21.3: where entries are just the rows', what is told and what lies there afterwards is as if there were no indexes but for what Unique forbids.
func TestAsWithoutIndexes(t *testing.T) {
	r := rand.New(rand.NewSource(213))
	good := 0
	for range 16000 {
		s := shape(r)
		shop := stock(r, s)
		l, list := newLedger(s, shop), texts(r, s)
		var want []api.Reply
		wantAt, wantErr := 0, api.OK
		for i, b := range list {
			reply, err := l.do(b)
			if err != api.OK {
				want, wantAt, wantErr = nil, i, err
				break
			}
			want = append(want, reply)
		}
		x, at, err := exec.Run(s, list, shop)
		if !same(api.Effect{Replies: x.Replies}, api.Effect{Replies: want}) || at != wantAt || err != wantErr {
			t.Fatalf("%+v\n%+v\n%v:\n%v, %d, %d, not\n%v, %d, %d", s, list, shop.hits, x.Replies, at, err, want, wantAt, wantErr)
		}
		if err == api.OK {
			l.checkIs(t, shop.wrote(x.Writes))
			good++
		}
	}
	if good < 3000 {
		t.Fatalf("only %d were done", good)
	}
}

// P21.3: where entries are just the rows', it makes no difference whether an index is Public or WriteOnly.
func TestPublicOrWriteOnly(t *testing.T) {
	r := rand.New(rand.NewSource(23))
	differ := 0
	for range 10000 {
		s := shape(r)
		for i := range s.Tables {
			for j := range s.Tables[i].Indexes {
				s.Tables[i].Indexes[j].State = api.Public
			}
		}
		shop, list := stock(r, s), texts(r, s)
		want, wantAt, wantErr := exec.Run(s, list, shop)
		for i := range s.Tables {
			for j := range s.Tables[i].Indexes {
				s.Tables[i].Indexes[j].State = api.WriteOnly + r.Intn(2)
			}
		}
		got, at, err := exec.Run(s, list, shop)
		if !same(got, want) {
			differ++
		}
		got.Reads, want.Reads = nil, nil
		if !same(got, want) || at != wantAt || err != wantErr {
			t.Fatalf("%+v\n%+v:\n%#v, %d, %d, not\n%#v, %d, %d", s, list, got, at, err, want, wantAt, wantErr)
		}
	}
	if differ < 300 {
		t.Fatalf("only %d read otherwise", differ)
	}
}

// P21.3: what is told and written hangs on what was read alone: with everything else in the shop gone, or otherwise, it is the same.
func TestWhatWasReadAlone(t *testing.T) {
	r := rand.New(rand.NewSource(24))
	for range 10000 {
		s := shape(r)
		shop, other := stock(r, s), stock(r, s)
		spoil(r, s, other)
		list := texts(r, s)
		want, at, err := exec.Run(s, list, shop)
		if err != api.OK {
			continue
		}
		for _, read := range want.Reads {
			for _, h := range other.shown(read.Span) {
				delete(other.hits, h.Key)
			}
			for _, h := range shop.shown(read.Span) {
				other.hits[h.Key] = h
			}
		}
		if got, at, err := exec.Run(s, list, other); !same(got, want) || at != 0 || err != api.OK {
			t.Fatalf("%+v\n%+v:\n%#v, %d, %d, not\n%#v", s, list, got, at, err, want)
		}
		// Times are told as seen, and mean nothing else.
		for key, h := range other.hits {
			h.Ts += 7
			other.hits[key] = h
		}
		later, at, err := exec.Run(s, list, other)
		later.Reads, want.Reads = nil, nil
		if !same(later, want) || at != 0 || err != api.OK {
			t.Fatalf("%+v\n%+v, later:\n%#v, %d, %d, not\n%#v", s, list, later, at, err, want)
		}
	}
}
