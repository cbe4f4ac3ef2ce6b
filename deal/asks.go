package deal

import (
	"slices"

	"lintel/api"
)

// Asks answers what it asks for now.
func (d *Deal) Asks() []Ask {
	list := d.now()
	for i := range list {
		c := &list[i].Command
		c.Reads, c.Writes = cloneReads(c.Reads), slices.Clone(c.Writes)
	}
	return list
}

// now answers what it asks for now; what is read and written there is the deal's own memory.
func (d *Deal) now() []Ask {
	if d == nil {
		return nil
	}
	phases := [...]func() []Ask{none: d.nothing, preparing: d.prepares, committing: d.commits, ending: d.resolves, over: d.nothing}
	return phases[d.phase]()
}

func (d *Deal) nothing() []Ask { return nil }

func (d *Deal) prepares() []Ask {
	return d.each(func(p part) api.Command {
		c := d.command(api.Prepare)
		c.Until, c.Reads, c.Writes = d.until, p.reads, p.writes
		return c
	})
}

// commits asks the home alone: what becomes of the transaction is settled where its record is.
func (d *Deal) commits() []Ask {
	if d.clearing {
		return []Ask{{Shard: d.home, Command: d.command(api.Abort)}}
	}
	c := d.command(api.Commit)
	// Its writes are to be behind all that its shards have seen.
	c.Min, c.Until, c.Version, c.Call = d.high+1, d.until, d.version, d.call
	return []Ask{{Shard: d.home, Command: c}}
}

func (d *Deal) resolves() []Ask {
	return d.each(func(part) api.Command {
		c := d.command(api.Resolve)
		c.Ts = d.ts
		return c
	})
}

// each answers a command for each shard that hasn't answered.
func (d *Deal) each(command func(part) api.Command) []Ask {
	var list []Ask
	for _, p := range d.waiting {
		list = append(list, Ask{Shard: p.shard, Command: command(p)})
	}
	return list
}

// command answers a command with what all of them have.
func (d *Deal) command(kind int) api.Command {
	return api.Command{Kind: kind, Txn: d.txn, Home: d.home}
}
