package group

import (
	"slices"

	"lintel/api"
	"lintel/ballot"
	"lintel/diary"
	"lintel/drive"
	"lintel/wire"
)

// fileName is the diary's file.
const fileName = "log"

// node is a ballot, if it is up, and a drive, on which the diary is that keeps the ballot's changes.
type node struct {
	id, size int
	disk     *drive.Drive
	log      *diary.Diary
	ballot   *ballot.Ballot // nil: the node is down
}

func (n *node) up() bool { return n.ballot != nil }

// stop takes all that isn't on the drive.
func (n *node) stop() { n.log, n.ballot = nil, nil }

// begin starts a node on an empty drive.
func (n *node) begin(id, size int) api.Errno {
	n.id, n.size, n.disk = id, size, drive.New()
	return n.start()
}

// restart starts a node that is down on what a loss of power leaves of its drive: of each file kept bytes beyond the safe ones.
func (n *node) restart(kept int) {
	n.disk = n.disk.Crash(slices.Repeat([]int{kept}, len(n.disk.Names())))
	n.start()
}

// start lets a node go on from what its diary finds, or, if that tells of no ballot, leaves it down.
func (n *node) start() api.Errno {
	log, payloads, err := diary.Open(n.disk, fileName)
	if err != api.OK {
		return err
	}
	changes, err := deltas(payloads)
	if err != api.OK {
		return err
	}
	b, err := ballot.Load(n.id, n.size, changes)
	if err != api.OK {
		return err
	}
	n.log, n.ballot = log, b
	return api.OK
}

func deltas(payloads []string) ([]api.Delta, api.Errno) {
	var list []api.Delta
	for _, bytes := range payloads {
		d, err := wire.GetDelta(bytes)
		if err != api.OK {
			return nil, err
		}
		list = append(list, d)
	}
	return list, api.OK
}

// keep puts what has changed of the ballot into the diary.
func (n *node) keep() api.Errno {
	d, ok := n.ballot.Delta()
	if !ok {
		return api.OK
	}
	if d.Whole {
		return n.log.Rewrite(wire.PutDelta(d))
	}
	return n.log.Append(wire.PutDelta(d))
}

// deliver lets the node that a letter is for take its message.
func (g *Group) deliver(l api.Letter) {
	// Only this package's letters are in the post: each is a message to one of the nodes.
	m, _ := wire.GetMsg(l.Text)
	n := &g.nodes[l.To]
	g.finish(n, n.ballot.Take(m))
}

// finish is behind each thing that a node does: what has changed is kept, and only then others are told, so that a loss of power takes nothing that they know of.
func (g *Group) finish(n *node, out []api.Msg) {
	if n.keep() != api.OK {
		n.stop()
		return
	}
	for _, m := range out {
		g.post.Send(api.Letter{From: m.From, To: m.To, Text: wire.PutMsg(m)})
	}
}
