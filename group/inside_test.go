package group

import (
	"slices"
	"testing"

	"lintel/api"
	"lintel/strip"
	"lintel/wire"
)

// records answers the records of payloads, one behind the other.
func records(t *testing.T, list ...string) string {
	t.Helper()
	all := ""
	for _, payload := range list {
		record, err := strip.Put(payload)
		if err != api.OK {
			t.Fatal(err)
		}
		all += record
	}
	return all
}

// checkLog looks at a node's drive: its only file is the diary, with these changes.
func checkLog(t *testing.T, n *node, want ...api.Delta) {
	t.Helper()
	var payloads []string
	for _, d := range want {
		payloads = append(payloads, wire.PutDelta(d))
	}
	names := n.disk.Names()
	if len(want) == 0 && len(names) == 0 {
		return
	}
	if !slices.Equal(names, []string{"log"}) {
		t.Fatalf("the drive of %d has %q, not log", n.id, names)
	}
	if got, err := n.disk.Read("log"); got != records(t, payloads...) || err != api.OK {
		t.Fatalf("the diary of %d: %q, %d, not the records of %q, OK", n.id, got, err, payloads)
	}
}

// P11.1: letters are from who sends a message to whom it is for, and have its bytes.
func TestLetters(t *testing.T) {
	g, _ := New(3)
	g.Do(api.Act{Kind: 4, A: 1})
	for i, to := range []int{0, 2} {
		want := api.Letter{From: 1, To: to, Text: wire.PutMsg(api.Msg{Kind: api.Ask, From: 1, To: to, Term: 1})}
		if got, ok := g.post.Copy(i); got != want || !ok {
			t.Fatalf("the letter %d: %+v, %v, not %+v, true", i, got, ok, want)
		}
	}
	g.Do(api.Act{Kind: 1, A: 1})
	want := api.Letter{From: 2, To: 1, Text: wire.PutMsg(api.Msg{Kind: api.Vote, From: 2, To: 1, Term: 1, Good: true})}
	if got, ok := g.post.Copy(1); got != want || !ok {
		t.Fatalf("the answer: %+v, %v, not %+v, true", got, ok, want)
	}
}

// P11.1: each change is a record behind the others in the diary `log`, a whole one in their place; nothing else is on a drive.
func TestDiaries(t *testing.T) {
	g, _ := New(2)
	g.Do(api.Act{Kind: 4, A: 0})
	first := api.Delta{Term: 1, From: 1}
	checkLog(t, &g.nodes[0], first)
	checkLog(t, &g.nodes[1])
	g.Do(api.Act{Kind: 1})
	checkLog(t, &g.nodes[1], first)
	g.Do(api.Act{Kind: 1})
	lead := api.Delta{Term: 1, From: 1, List: []api.Entry{{Term: 1}}}
	checkLog(t, &g.nodes[0], first, lead)
	g.Do(api.Act{Kind: 6, Text: "x"})
	text := api.Entry{Term: 1, Born: 4, Text: "x"}
	checkLog(t, &g.nodes[0], first, lead, api.Delta{Term: 1, From: 2, List: []api.Entry{text}})
	for g.Letters() > 0 {
		g.Do(api.Act{Kind: 1})
	}
	g.Do(api.Act{Kind: 10})
	// The entry without a text is a text without a byte.
	snap := records(t, "", "x")
	checkLog(t, &g.nodes[0], api.Delta{Term: 1, Whole: true, Base: 2, BaseTerm: 1, Snap: snap, From: 3})
	if got := g.nodes[0].ballot.Snap(); got != snap {
		t.Fatalf("the snapshot: %q, not %q", got, snap)
	}
	checkLog(t, &g.nodes[1], first, lead, api.Delta{Term: 1, From: 2, List: []api.Entry{text}})
}
