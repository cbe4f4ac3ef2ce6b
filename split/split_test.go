package split_test

import (
	"slices"
	"strings"
	"testing"

	"lintel/api"
	"lintel/split"
)

func list(s ...string) []string { return s }

func span(from, to string) api.Span { return api.Span{From: from, To: to} }

func part(shard int, from, to string) api.Part {
	return api.Part{Shard: shard, Span: span(from, to)}
}

func long(s string, n int) string { return strings.Repeat(s, n) }

func made(t *testing.T, bounds ...string) *split.Split {
	t.Helper()
	s, err := split.New(bounds)
	if s == nil || err != api.OK {
		t.Fatalf("New(%q): %#v, %d, not a split, OK", bounds, s, err)
	}
	return s
}

func checkRefused(t *testing.T, bounds ...string) {
	t.Helper()
	if s, err := split.New(bounds); s != nil || err != api.ErrArg {
		t.Fatalf("New(%q): %#v, %d, not nil, ErrArg", bounds, s, err)
	}
}

func checkSize(t *testing.T, s *split.Split, want int) {
	t.Helper()
	if got := s.Size(); got != want {
		t.Fatalf("Size: %d, not %d", got, want)
	}
}

// checkFind looks for keys that are all of one shard.
func checkFind(t *testing.T, s *split.Split, want int, keys ...string) {
	t.Helper()
	for _, key := range keys {
		if got := s.Find(key); got != want {
			t.Fatalf("Find(%q): %d, not %d", key, got, want)
		}
	}
}

func checkParts(t *testing.T, s *split.Split, p api.Span, want ...api.Part) {
	t.Helper()
	if got := s.Parts(p); !slices.Equal(got, want) {
		t.Fatalf("Parts(%q): %#v, not %#v", p, got, want)
	}
}

// P14.1, P14.2: the chapter's examples.
func TestExamples(t *testing.T) {
	s := made(t, "b", "d")
	checkSize(t, s, 3)
	checkFind(t, s, 0, "a")
	checkFind(t, s, 1, "b")
	checkFind(t, s, 2, "z")
	checkParts(t, s, span("a", "c"), part(0, "a", "b"), part(1, "b", "c"))
}

// P14.1: one shard more than there are bounds, from none on up to the greatest number that may be.
func TestSize(t *testing.T) {
	checkSize(t, made(t), 1)
	checkSize(t, made(t, list()...), 1)
	checkSize(t, made(t, "b"), 2)
	checkSize(t, made(t, "b", "d"), 3)
	checkSize(t, made(t, "b", "d", "f"), 4)
	if api.MaxShards != 4 {
		t.Fatal("there are more shards to look at")
	}
}

// P14.1: nil and an empty list are one.
func TestNoBounds(t *testing.T) {
	for _, bounds := range [][]string{nil, {}} {
		s, err := split.New(bounds)
		if s == nil || err != api.OK {
			t.Fatalf("New(%q): %#v, %d, not a split, OK", bounds, s, err)
		}
		checkSize(t, s, 1)
		checkFind(t, s, 0, "", "\x00", "a", "\xff", long("\xff", 1000))
		checkParts(t, s, span("", "a"), part(0, "", "a"))
		checkParts(t, s, span("a", "\xff\xff"), part(0, "a", "\xff\xff"))
	}
}

// P14.1: too many bounds, whatever they are.
func TestTooMany(t *testing.T) {
	checkRefused(t, "a", "b", "c", "d")
	checkRefused(t, "a", "b", "c", "d", "e")
	checkRefused(t, "", "", "", "")
	checkRefused(t, "d", "c", "b", "a")
	var many []string
	for i := range 256 {
		many = append(many, "x"+string([]byte{byte(i)}))
	}
	checkRefused(t, many...)
}

// P14.1: an empty bound, at each place.
func TestEmptyBound(t *testing.T) {
	checkRefused(t, "")
	checkRefused(t, "", "a")
	checkRefused(t, "a", "")
	checkRefused(t, "", "a", "b")
	checkRefused(t, "a", "", "b")
	checkRefused(t, "a", "b", "")
	checkRefused(t, "", "")
}

// P14.1: bounds that don't rise, at each place; two that are the same don't.
func TestNotRising(t *testing.T) {
	for _, two := range [][2]string{
		{"a", "a"}, {"b", "a"}, {"\x00", "\x00"}, {"a\x00", "a"}, {"aa", "a"}, {"b", "aaaa"}, {"\xff", "\x7f"}, {"\x80", "z"},
		{"\xff\xff", "\xff"}, {"10\x00", "10"}, {"9", "10"}, {"a", "B"}, {long("x", 1000), long("x", 999)},
	} {
		checkRefused(t, two[0], two[1])
		checkRefused(t, two[0], two[1], "\xff\xff\xff")
		checkRefused(t, two[0], "\xff\xff\xff", two[1])
		made(t, two[0])
		made(t, two[1])
	}
	checkRefused(t, "b", "c", "a")
	checkRefused(t, "b", "c", "b")
	checkRefused(t, "b", "c", "c")
	checkRefused(t, "c", "a", "b")
}

// P14.1: bounds that rise by little, byte by byte, may be, and no byte is special.
func TestRisingByLittle(t *testing.T) {
	for _, bounds := range [][]string{
		{"\x00"}, {"\xff"}, {" "}, {"\x00", "\x00\x00", "\x00\x00\x00"}, {"a", "a\x00", "a\x00\x00"}, {"a", "aa", "b"},
		{"A", "a", "\xc3\xa4"}, {"10", "9", "90"}, {"\x7f", "\x80", "\xff"}, {"\xff", "\xff\x00", "\xff\xff"},
		{long("x", 999), long("x", 1000), long("x", 999) + "y"},
	} {
		s := made(t, bounds...)
		checkSize(t, s, len(bounds)+1)
		for i, b := range bounds {
			checkFind(t, s, i+1, b)
			checkFind(t, s, i, below(b))
		}
	}
}

// below answers a key that stands ahead of a bound, with nothing of the tests between them.
func below(b string) string {
	n := len(b) - 1
	if b[n] == 0 {
		return b[:n]
	}
	return b[:n] + string([]byte{b[n] - 1}) + long("\xff", 2000)
}

// P14.1, P14.2: a bound is the first key of its shard, and what stands just ahead of it the last one of the other.
func TestFind(t *testing.T) {
	s := made(t, "b", "d", "f")
	checkFind(t, s, 0, "", "\x00", "B", "F", "Z", "a", "az", "a\xff\xff")
	checkFind(t, s, 1, "b", "b\x00", "bz", "c", "c\xff\xff")
	checkFind(t, s, 2, "d", "d\x00", "e", "e\xff\xff")
	checkFind(t, s, 3, "f", "f\x00", "g", "z", "\x80", "\xff", long("\xff", 1000))
}

// P14.2: where a span begins and ends, at bounds and beside them.
func TestPartsAtTheBounds(t *testing.T) {
	s := made(t, "b", "d")
	checkParts(t, s, span("", "b"), part(0, "", "b"))
	checkParts(t, s, span("a", "b"), part(0, "a", "b"))
	checkParts(t, s, span("a", "b\x00"), part(0, "a", "b"), part(1, "b", "b\x00"))
	checkParts(t, s, span("b", "b\x00"), part(1, "b", "b\x00"))
	checkParts(t, s, span("b", "d"), part(1, "b", "d"))
	checkParts(t, s, span("c", "d"), part(1, "c", "d"))
	checkParts(t, s, span("c", "c\x00"), part(1, "c", "c\x00"))
	checkParts(t, s, span("b", "e"), part(1, "b", "d"), part(2, "d", "e"))
	checkParts(t, s, span("c", "e"), part(1, "c", "d"), part(2, "d", "e"))
	checkParts(t, s, span("d", "e"), part(2, "d", "e"))
	checkParts(t, s, span("x", "\xff\xff\xff"), part(2, "x", "\xff\xff\xff"))
	checkParts(t, s, span("", "\xff"), part(0, "", "b"), part(1, "b", "d"), part(2, "d", "\xff"))
	checkParts(t, s, span("a", "d"), part(0, "a", "b"), part(1, "b", "d"))
	checkParts(t, s, span("a\xff", "e"), part(0, "a\xff", "b"), part(1, "b", "d"), part(2, "d", "e"))
}

// P14.2: a span without keys has no parts; an empty To is below all keys, not beyond them.
func TestPartsOfNothing(t *testing.T) {
	for _, s := range []*split.Split{made(t), made(t, "b"), made(t, "b", "d"), made(t, "b", "d", "f")} {
		for _, p := range []api.Span{
			{}, span("a", ""), span("b", ""), span("z", ""), span("a", "a"), span("b", "b"), span("c", "c"), span("d", "d"), span("z", "z"),
			span("b", "a"), span("c", "b"), span("c", "a"), span("d", "b"), span("z", "a"), span("z", "y"), span("b\x00", "b"),
		} {
			if got := s.Parts(p); len(got) > 0 {
				t.Fatalf("Parts(%q): %#v, where there are no keys", p, got)
			}
		}
	}
}

// P14.3: a split that is nil has nothing.
func TestNil(t *testing.T) {
	var s *split.Split
	checkSize(t, s, 0)
	checkFind(t, s, 0, "", "a", "\xff")
	for _, p := range []api.Span{{}, span("", "\xff"), span("a", "c"), span("c", "a")} {
		if got := s.Parts(p); len(got) > 0 {
			t.Fatalf("Parts(%q) of nil: %#v, not nothing", p, got)
		}
	}
}

// A split that New didn't make is one without bounds.
func TestZero(t *testing.T) {
	s := &split.Split{}
	checkSize(t, s, 1)
	checkFind(t, s, 0, "", "a", "\xff")
	checkParts(t, s, span("a", "c"), part(0, "a", "c"))
	checkParts(t, s, span("c", "a"))
}

// P14.1: bounds that were handed in stay as they are, their spare room too, and are not kept.
func TestBoundsAreNotKept(t *testing.T) {
	room := list("b", "d", "x", "y", "z")
	s := made(t, room[:2]...)
	if !slices.Equal(room, list("b", "d", "x", "y", "z")) {
		t.Fatalf("the bounds are %q", room)
	}
	copy(room, list("z", "", "a", "a", "a"))
	checkSize(t, s, 3)
	checkFind(t, s, 0, "a")
	checkFind(t, s, 1, "b")
	checkFind(t, s, 2, "d")
	checkParts(t, s, span("a", "e"), part(0, "a", "b"), part(1, "b", "d"), part(2, "d", "e"))
	checkRefused(t, room[:3]...)
	if !slices.Equal(room, list("z", "", "a", "a", "a")) {
		t.Fatalf("the bounds are %q", room)
	}
}

// P14.2: parts are new memory, each time.
func TestPartsAreNew(t *testing.T) {
	s := made(t, "b", "d")
	want := []api.Part{part(0, "a", "b"), part(1, "b", "d"), part(2, "d", "e")}
	first := s.Parts(span("a", "e"))
	second := s.Parts(span("a", "e"))
	for i := range first {
		first[i] = part(7, "x", "y")
	}
	_ = append(first, part(8, "x", "y"))
	if !slices.Equal(second, want) {
		t.Fatalf("other parts are %#v, not %#v", second, want)
	}
	checkParts(t, s, span("a", "e"), want...)
	checkFind(t, s, 1, "b")
}

// P14.1, P14.2: two splits don't meet.
func TestTwoSplits(t *testing.T) {
	a, b := made(t, "b"), made(t, "x", "y")
	checkRefused(t, "")
	checkSize(t, a, 2)
	checkSize(t, b, 3)
	checkFind(t, a, 1, "c")
	checkFind(t, b, 0, "c")
	checkParts(t, a, span("a", "z"), part(0, "a", "b"), part(1, "b", "z"))
	checkParts(t, b, span("a", "z"), part(0, "a", "x"), part(1, "x", "y"), part(2, "y", "z"))
}
