package schema_test

import (
	"math"
	"slices"
	"strconv"
	"strings"
	"testing"

	"lintel/api"
	"lintel/schema"
)

// moves reads the moves of a line of the chapter's table.
func moves(line string) []api.Move {
	kinds := map[string]int{"Bump": 1, "Still": 2, "Wait": 3, "Fill": 4, "Sweep": 5}
	states := map[string]int{"Absent": 0, "DeleteOnly": 1, "WriteOnly": 2, "Public": 3}
	var list []api.Move
	for _, s := range strings.Split(line, ", ") {
		if words := strings.Fields(s); len(words) == 2 {
			list = append(list, api.Move{Kind: kinds[words[0]], State: states[words[1]]})
		} else if len(words) == 1 {
			list = append(list, api.Move{Kind: kinds[words[0]]})
		}
	}
	return list
}

// P15.2: the chapter's table.
func TestPath(t *testing.T) {
	for kind, row := range map[int][2]string{
		api.AddTable:    {"Bump Public", ""},
		api.AddIndex:    {"Bump DeleteOnly, Bump WriteOnly, Wait, Fill, Bump Public", "Bump DeleteOnly, Wait, Sweep, Bump Absent"},
		api.DropIndex:   {"Bump WriteOnly, Bump DeleteOnly, Wait, Sweep, Bump Absent", ""},
		api.AddColumn:   {"Bump DeleteOnly, Bump WriteOnly, Wait, Fill, Still Public", "Bump DeleteOnly, Bump Absent"},
		api.DropColumn:  {"Still WriteOnly, Bump DeleteOnly, Bump Absent", ""},
		api.AddForeign:  {"Bump WriteOnly, Wait, Fill, Bump Public", "Bump Absent"},
		api.DropForeign: {"Bump Absent", ""},
	} {
		checkPath(t, api.Ddl{Kind: kind}, false, moves(row[0]))
		checkPath(t, api.Ddl{Kind: kind}, true, moves(row[1]))
		// Nothing but the kind matters.
		d := api.Ddl{Kind: kind, Table: "?", Name: "x", Column: "A", Parent: "t", Unique: true, Type: 9, Default: number(1), Columns: make([]api.Column, 3)}
		checkPath(t, d, false, moves(row[0]))
		checkPath(t, d, true, moves(row[1]))
	}
}

// P15.2: other kinds have no moves.
func TestNoPath(t *testing.T) {
	for _, kind := range []int{0, 8, 9, -1, -2, 100, 256 + api.AddIndex, math.MaxInt, math.MinInt} {
		checkPath(t, api.Ddl{Kind: kind}, false, nil)
		checkPath(t, api.Ddl{Kind: kind}, true, nil)
	}
}

func checkPath(t *testing.T, d api.Ddl, back bool, want []api.Move) {
	t.Helper()
	if got := schema.Path(d, back); !slices.Equal(got, want) {
		t.Fatalf("Path of the kind %s, %t: %v, not %v", strconv.Itoa(d.Kind), back, got, want)
	}
}

// P15.6: moves are new memory, each time.
func TestPathIsNew(t *testing.T) {
	for kind := api.AddTable; kind <= api.DropForeign; kind++ {
		for _, back := range []bool{false, true} {
			first, want := schema.Path(api.Ddl{Kind: kind}, back), schema.Path(api.Ddl{Kind: kind}, back)
			kept := slices.Clone(want)
			for i := range first {
				first[i] = api.Move{Kind: 77, State: 77}
			}
			_ = append(first, api.Move{Kind: 78})
			checkPath(t, api.Ddl{Kind: kind}, back, kept)
			if !slices.Equal(want, kept) {
				t.Fatalf("other moves of the kind %d are %v", kind, want)
			}
		}
	}
}
