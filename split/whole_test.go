package split_test

import (
	"slices"
	"testing"

	"lintel/api"
	"lintel/split"
)

// universe answers some keys, rising: all of up to two of these bytes.
func universe() []string {
	keys := []string{""}
	for _, a := range []string{"\x00", "a", "\xff"} {
		keys = append(keys, a)
		for _, b := range []string{"\x00", "a", "\xff"} {
			keys = append(keys, a+b)
		}
	}
	return keys
}

// lists answers all lists of up to most of these keys, each in every order and with every key more than once.
func lists(keys []string, most int) [][]string {
	all := [][]string{nil}
	last := all
	for range most {
		var next [][]string
		for _, l := range last {
			for _, key := range keys {
				next = append(next, append(slices.Clone(l), key))
			}
		}
		all = append(all, next...)
		last = next
	}
	return all
}

// mayBe tells by the chapter's words whether these may be bounds: each of them against each other one.
func mayBe(bounds []string) bool {
	for i, b := range bounds {
		for _, later := range bounds[i+1:] {
			if b >= later {
				return false
			}
		}
	}
	return len(bounds) < api.MaxShards && !slices.Contains(bounds, "")
}

// owner answers a key's shard another way than the program: as many bounds as are not above it.
func owner(bounds []string, key string) int {
	n := 0
	for _, b := range bounds {
		if b <= key {
			n++
		}
	}
	return n
}

// P14.1: of all lists of up to four keys just those are refused that may not be.
func TestWhichBounds(t *testing.T) {
	keys := universe()
	good := 0
	for _, bounds := range lists(keys, api.MaxShards) {
		if !mayBe(bounds) {
			checkRefused(t, bounds...)
			continue
		}
		good++
		s := made(t, bounds...)
		checkSize(t, s, len(bounds)+1)
		for _, key := range keys {
			checkFind(t, s, owner(bounds, key), key)
		}
	}
	// None, one, two or three of the twelve keys that aren't empty.
	if want := 1 + 12 + 66 + 220; good != want {
		t.Fatalf("%d lists may be bounds, not %d", good, want)
	}
}

// P14.1, P14.2: by all bounds, the parts of all spans are of rising shards, none of them empty, end where the next one begins, make up the span, and have the keys that are found in their shards.
func TestPartsMakeUpTheSpan(t *testing.T) {
	keys := universe()
	for _, bounds := range lists(keys, api.MaxShards-1) {
		if !mayBe(bounds) {
			continue
		}
		s := made(t, bounds...)
		for _, from := range keys {
			for _, to := range keys {
				checkMakeUp(t, s, keys, span(from, to))
			}
		}
	}
}

func checkMakeUp(t *testing.T, s *split.Split, keys []string, p api.Span) {
	t.Helper()
	parts := s.Parts(p)
	if p.From >= p.To {
		checkParts(t, s, p)
		return
	}
	if len(parts) == 0 || parts[0].Span.From != p.From || parts[len(parts)-1].Span.To != p.To {
		t.Fatalf("Parts(%q): %#v don't begin and end as the span does", p, parts)
	}
	for i, x := range parts {
		if x.Span.From >= x.Span.To || s.Find(x.Span.From) != x.Shard {
			t.Fatalf("Parts(%q): %#v: the part %d is empty, or begins in another shard", p, parts, i)
		}
		if i > 0 && (x.Span.From != parts[i-1].Span.To || x.Shard <= parts[i-1].Shard) {
			t.Fatalf("Parts(%q): %#v: the part %d isn't next to the one ahead of it", p, parts, i)
		}
	}
	for _, key := range keys {
		checkShards(t, s, p, parts, key)
	}
}

// checkShards looks whether a key is in the part of its shard alone, if the span has it, and in none, if not.
func checkShards(t *testing.T, s *split.Split, p api.Span, parts []api.Part, key string) {
	t.Helper()
	var want, got []int
	if p.From <= key && key < p.To {
		want = append(want, s.Find(key))
	}
	for _, x := range parts {
		if x.Span.From <= key && key < x.Span.To {
			got = append(got, x.Shard)
		}
	}
	if !slices.Equal(got, want) {
		t.Fatalf("Parts(%q): %#v: the key %q is in the parts of the shards %d, not %d", p, parts, key, got, want)
	}
}
