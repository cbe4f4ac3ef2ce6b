package work_test

import (
	"math"
	"testing"

	"lintel/api"
	"lintel/shard"
	"lintel/work"
)

// P23.2: ErrNil without a reader, whatever else is wrong; ErrForm of a schema that isn't right, ahead of what the job is about, and of the reader.
func TestWhatIsWrongFirst(t *testing.T) {
	wrong := laid(func(t *api.Table) { t.Columns[0].State = api.WriteOnly })
	good, bad := job(newIndex("i"), ""), job(newIndex("nobody"), "")
	for _, s := range []api.Schema{base(), wrong} {
		for _, j := range []api.Job{good, bad} {
			for _, m := range []api.Move{fill(), sweep(), {Kind: api.Bump}} {
				refused(t, s, j, m, nil, api.ErrNil)
			}
		}
	}
	for _, j := range []api.Job{good, bad} {
		for _, m := range []api.Move{fill(), sweep(), {Kind: api.Bump}} {
			r := five()
			refused(t, wrong, j, m, r, api.ErrForm)
			if len(r.asked) > 0 {
				t.Fatal("the reader was asked, by a schema that isn't right")
			}
		}
	}
	for _, change := range []func(t *api.Table){
		func(t *api.Table) { t.Columns = nil },
		func(t *api.Table) { t.Indexes[1].Column = 14 },
		func(t *api.Table) { t.Keys[1].Parent = 99 },
		func(t *api.Table) { t.Name = "u" },
		func(t *api.Table) { t.Id = 13 },
		func(t *api.Table) { t.Columns[4].Default = text("x") },
		func(t *api.Table) { t.Indexes[1].Name = "i" },
	} {
		refused(t, laid(change), good, fill(), five(), api.ErrForm)
		refused(t, laid(change), good, sweep(), five(), api.ErrForm)
	}
}

// P23.2: ErrArg of a move that is neither Fill nor Sweep.
func TestOtherMoves(t *testing.T) {
	for _, kind := range []int{0, api.Bump, api.Still, api.Wait, 6, -1, -4, math.MaxInt, math.MinInt} {
		for _, d := range []api.Ddl{newIndex("i"), dropIndex("i"), newColumn("e"), newForeign("f")} {
			for state := range 4 {
				r := five()
				refused(t, base(), job(d, ""), api.Move{Kind: kind, State: state}, r, api.ErrArg)
				if len(r.asked) > 0 {
					t.Fatalf("asked for %q", r.asked)
				}
			}
		}
	}
}

// P23.2: ErrArg of a change that is none of those that fill, or sweep, even if all that may be meant is there.
func TestOtherChanges(t *testing.T) {
	// One name stands for an index, a column and a foreign key.
	s := laid(func(t *api.Table) {
		t.Indexes[0].Name, t.Columns[4].Name, t.Keys[0].Name = "z", "z", "z"
	})
	fills := map[int]bool{api.AddIndex: true, api.AddColumn: true, api.AddForeign: true}
	sweeps := map[int]bool{api.AddIndex: true, api.DropIndex: true}
	for _, kind := range []int{api.AddTable, api.AddIndex, api.DropIndex, api.AddColumn, api.DropColumn, api.AddForeign, api.DropForeign, 0, 8, -2, math.MaxInt, math.MinInt} {
		d := api.Ddl{Kind: kind, Table: "t", Name: "z", Column: "z", Parent: "u"}
		r := newShop()
		if fills[kind] {
			cut(t, s, job(d, ""), fill(), r)
		} else {
			refused(t, s, job(d, ""), fill(), r, api.ErrArg)
		}
		if sweeps[kind] {
			cut(t, s, job(d, ""), sweep(), r)
		} else {
			refused(t, s, job(d, ""), sweep(), r, api.ErrArg)
		}
	}
}

// P23.2: ErrArg, if the schema lacks the table, or in it what the change is about; an element of another sort or table, or what another field names, is none.
func TestWhatIsLacking(t *testing.T) {
	s := base()
	s.Tables[0].Indexes = []api.Index{{Id: 20, Name: "j", Column: 14, State: api.Public}}
	s.Tables[0].Columns = append(s.Tables[0].Columns, api.Column{Id: 21, Name: "l", Kind: api.Int, State: api.WriteOnly})
	s.Tables[0].Keys = []api.Foreign{{Id: 22, Name: "h", Column: 14, Parent: 1, State: api.WriteOnly}}
	good := map[string]string{"index": "i", "column": "e", "foreign": "f"}
	names := []string{"i", "w", "e", "a", "f", "g", "j", "l", "h", "t", "u", "", "E", "nobody"}
	for _, table := range []string{"t", "u", "v", "", "T", "nobody", "i", "13"} {
		for _, name := range names {
			for _, c := range []struct {
				d     api.Ddl
				moves []api.Move
				in    map[string]string
			}{
				{api.Ddl{Kind: api.AddIndex, Table: table, Name: name, Column: good["column"]}, []api.Move{fill(), sweep()}, map[string]string{"i": "t", "w": "t", "j": "u"}},
				{api.Ddl{Kind: api.DropIndex, Table: table, Name: name, Column: good["column"]}, []api.Move{sweep()}, map[string]string{"i": "t", "w": "t", "j": "u"}},
				{api.Ddl{Kind: api.AddColumn, Table: table, Column: name, Name: good["index"]}, []api.Move{fill()}, map[string]string{"a": "t", "e": "t", "l": "u"}},
				{api.Ddl{Kind: api.AddForeign, Table: table, Name: name, Column: good["column"], Parent: "u"}, []api.Move{fill()}, map[string]string{"f": "t", "g": "t", "h": "u"}},
			} {
				for _, m := range c.moves {
					if c.in[name] == table && table != "" {
						cut(t, s, job(c.d, ""), m, newShop())
					} else {
						refused(t, s, job(c.d, ""), m, newShop(), api.ErrArg)
					}
				}
			}
		}
	}
	refused(t, api.Schema{}, job(newIndex("i"), ""), fill(), newShop(), api.ErrArg)
	refused(t, api.Schema{}, api.Job{}, sweep(), newShop(), api.ErrArg)
}

// A broken reader panics when it is asked for the n-th time.
type broken struct {
	*shop
	n int
}

func (b *broken) Span(p api.Span) []api.Hit {
	b.n--
	if b.n == 0 {
		panic("broken")
	}
	return b.shop.Span(p)
}

// P23.2: a reader that panics is none: nothing is told of what was done by then.
func TestReaderThatPanics(t *testing.T) {
	for n := 1; n <= 4; n++ {
		refused(t, base(), job(newIndex("w"), ""), fill(), &broken{five(), n}, api.ErrNil)
	}
	cut(t, base(), job(newIndex("w"), ""), fill(), &broken{five(), 5})
	var none *broken
	refused(t, base(), job(newIndex("w"), ""), fill(), none, api.ErrNil)
	refused(t, base(), job(newIndex("w"), ""), sweep(), none, api.ErrNil)
	refused(t, base(), job(newIndex("nobody"), ""), sweep(), none, api.ErrArg)
}

// P23.2: a shard is a reader; one that is nil shows nothing.
func TestShardAsReader(t *testing.T) {
	var none *shard.Shard
	for _, r := range []api.Reader{none, shard.New(), newShop()} {
		checkCut(t, base(), job(newIndex("w"), ""), fill(), r, work.Piece{Effect: api.Effect{Reads: []api.Read{{Span: span("", "")}}}, Over: true})
	}
	r := shard.New()
	r.Do(1, api.Command{Kind: api.Prepare, Txn: api.Tid{Seq: 1}, Until: 9, Writes: []api.Write{put(keyOf(1), bytesOf(rowOf(1, "x", number(5), api.Value{})...))}})
	r.Do(1, api.Command{Kind: api.Commit, Txn: api.Tid{Seq: 1}, Min: 4})
	r.Do(1, api.Command{Kind: api.Resolve, Txn: api.Tid{Seq: 1}, Ts: 4})
	p := cut(t, base(), job(newIndex("w"), ""), fill(), r)
	if !p.Over || p.Mark != keyOf(1) || len(p.Effect.Writes) != 1 || len(p.Effect.Reads) != 2 || len(p.Effect.Reads[0].Seen) != 1 {
		t.Fatalf("%+v", p)
	}
}
