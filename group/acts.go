package group

import "lintel/api"

// maxText is how many bytes a text that is proposed may have.
const maxText = 256

// kinds answers what acts do, by their kinds.
func kinds() [11]func(*Group, api.Act) {
	return [...]func(*Group, api.Act){
		1:  (*Group).take,
		2:  (*Group).takeCopy,
		3:  (*Group).lose,
		4:  (*Group).timeout,
		5:  (*Group).beat,
		6:  (*Group).propose,
		7:  (*Group).powerOff,
		8:  (*Group).powerOn,
		9:  (*Group).arm,
		10: (*Group).cut,
	}
}

func (g *Group) take(a api.Act) {
	if l, ok := g.post.Take(g.letter(a)); ok {
		g.deliver(l)
	}
}

func (g *Group) takeCopy(a api.Act) {
	if l, ok := g.post.Copy(g.letter(a)); ok {
		g.deliver(l)
	}
}

func (g *Group) lose(a api.Act) { g.post.Lose(g.letter(a)) }

// In the acts below, a node that is down has a nil ballot: that does nothing, and sends nothing.

func (g *Group) timeout(a api.Act) {
	n := g.node(a)
	g.finish(n, n.ballot.Timeout())
}

func (g *Group) beat(a api.Act) {
	n := g.node(a)
	g.finish(n, n.ballot.Beat())
}

func (g *Group) propose(a api.Act) {
	if a.Text == "" || len(a.Text) > maxText {
		return
	}
	n := g.node(a)
	_, out := n.ballot.Propose(0, g.acts, a.Text)
	g.finish(n, out)
}

func (g *Group) powerOff(a api.Act) { g.node(a).stop() }

func (g *Group) powerOn(a api.Act) {
	if n := g.node(a); !n.up() {
		n.restart(a.B)
	}
}

func (g *Group) arm(a api.Act) {
	if n := g.node(a); n.up() {
		n.disk.Arm(a.B)
	}
}

func (g *Group) cut(a api.Act) {
	n := g.node(a)
	n.ballot.Cut(n.ballot.Stand().Commit, snapshot(n.ballot))
	g.finish(n, nil)
}

// node answers the node of an act.
func (g *Group) node(a api.Act) *node { return &g.nodes[modulo(a.A, len(g.nodes))] }

// letter answers the number of an act's letter, where there are letters.
func (g *Group) letter(a api.Act) int { return modulo(a.A, g.post.Len()) }

// modulo answers a modulo n, from 0 on; 0, if n is 0.
func modulo(a, n int) int {
	if n == 0 {
		return 0
	}
	return (a%n + n) % n
}
