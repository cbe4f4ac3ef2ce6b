package diary_test

import (
	"math/rand"
	"slices"
	"strconv"
	"strings"
	"testing"

	"lintel/api"
	"lintel/diary"
	"lintel/drive"
	"lintel/strip"
)

func checkErr(t *testing.T, what string, got, want api.Errno) {
	t.Helper()
	if got != want {
		t.Fatalf("%s: %d, not %d", what, got, want)
	}
}

func checkFile(t *testing.T, d *drive.Drive, name, want string) {
	t.Helper()
	if s, err := d.Read(name); s != want || err != api.OK {
		t.Fatalf("Read(%q): %q, %d, not %q, OK", name, s, err, want)
	}
}

// opened answers the diary of a file in which just the payloads want are found.
func opened(t *testing.T, d *drive.Drive, name string, want ...string) *diary.Diary {
	t.Helper()
	x, list, err := diary.Open(d, name)
	if x == nil || err != api.OK || !slices.Equal(list, want) {
		t.Fatalf("Open(%q): %v, %q, %d, not a diary, %q, OK", name, x, list, err, want)
	}
	return x
}

// notOpened checks that an Open is refused, and that it answers nothing else.
func notOpened(t *testing.T, d *drive.Drive, name string, want api.Errno) {
	t.Helper()
	if x, list, err := diary.Open(d, name); x != nil || len(list) != 0 || err != want {
		t.Fatalf("Open(%q): %v, %q, %d, not nothing, %d", name, x, list, err, want)
	}
}

func records(t *testing.T, list ...string) string {
	t.Helper()
	var all strings.Builder
	for _, payload := range list {
		record, err := strip.Put(payload)
		checkErr(t, "Put", err, api.OK)
		all.WriteString(record)
	}
	return all.String()
}

// operations answers how many of a drive's operations f does.
func operations(t *testing.T, d *drive.Drive, f func()) int {
	t.Helper()
	const most = 10
	d.Arm(most)
	f()
	for n := most; ; n-- {
		// A Sync of no file counts, and does nothing else.
		if d.Sync("\x00no file") == api.ErrDown {
			return n - 1
		}
	}
}

// P6.1 to P6.3: the chapter's examples.
func TestExamples(t *testing.T) {
	d := drive.New()
	x := opened(t, d, "f")
	checkErr(t, "Append", x.Append("a"), api.OK)
	d.Arm(2)
	checkErr(t, "Append", x.Append("b"), api.ErrDown)
	c := d.Crash([]int{5})
	opened(t, c, "f", "a")
	checkFile(t, c, "f", records(t, "a"))

	d = drive.New()
	checkErr(t, "Swap", d.Swap("f", "\x07"), api.OK)
	opened(t, d, "f")
	checkFile(t, d, "f", "")
}

// P6.1: Open tells the records of its own file, and does nothing to a file of nothing but records, nor to none.
func TestOpenWhole(t *testing.T) {
	for _, list := range [][]string{nil, {""}, {"", ""}, {"a"}, {"a", "", "b"}, {strings.Repeat("x", api.MaxRecord), "\x00\xff"}} {
		d := drive.New()
		checkErr(t, "Append", d.Append("f", records(t, list...)), api.OK)
		checkErr(t, "Append", d.Append("g", records(t, "other")), api.OK)
		if n := operations(t, d, func() { opened(t, d, "f", list...) }); n != 0 {
			t.Fatalf("Open of %d records: %d operations, not 0", len(list), n)
		}
		c := d.Crash([]int{0, 0})
		checkFile(t, c, "f", "")
	}
	d := drive.New()
	opened(t, d, "f")
	if names := d.Names(); len(names) != 0 {
		t.Fatalf("Open made %q", names)
	}
}

// P6.1: bytes behind the records go, by one Swap; what they are makes no difference.
func TestOpenRest(t *testing.T) {
	whole := records(t, "a", "bc")
	next := records(t, "next")
	wrong := next[:len(next)-1] + "T"
	for _, rest := range []string{"\x00", next[:1], next[:7], next[:8], next[:len(next)-1], wrong, wrong + next, "\xff\xff\xff\xff" + next} {
		d := drive.New()
		checkErr(t, "Append", d.Append("f", whole+rest), api.OK)
		if n := operations(t, d, func() { opened(t, d, "f", "a", "bc") }); n != 1 {
			t.Fatalf("Open of the rest %q: %d operations, not 1", rest, n)
		}

		d = drive.New()
		checkErr(t, "Append", d.Append("f", whole+rest), api.OK)
		x := opened(t, d, "f", "a", "bc")
		checkFile(t, d, "f", whole)
		checkErr(t, "Append", x.Append("d"), api.OK)
		opened(t, d, "f", "a", "bc", "d")
		opened(t, d.Crash(nil), "f", "a", "bc", "d")

		d = drive.New()
		checkErr(t, "Append", d.Append("f", whole+rest), api.OK)
		opened(t, d, "f", "a", "bc")
		opened(t, d.Crash(nil), "f", "a", "bc") // a Swap makes the records safe
	}
}

// P6.1: the error of the Read, and that of the Swap; beside them nothing, and the file is as it was.
func TestOpenErrors(t *testing.T) {
	notOpened(t, nil, "f", api.ErrNil)
	notOpened(t, nil, "", api.ErrNil)

	d := drive.New()
	checkErr(t, "Swap", d.Swap("f", records(t, "a")), api.OK)
	c := d.Crash(nil)
	notOpened(t, d, "f", api.ErrDown)
	notOpened(t, d, "none", api.ErrDown)
	opened(t, c, "f", "a")

	torn := records(t, "a") + "rest"
	d = drive.New()
	checkErr(t, "Swap", d.Swap("f", torn), api.OK)
	d.Arm(1)
	notOpened(t, d, "f", api.ErrDown)
	c = d.Crash(nil)
	checkFile(t, c, "f", torn)
	opened(t, c, "f", "a")
}

// P6.2: records are put behind those that are there, by one Append and one Sync, however many they are.
func TestAppend(t *testing.T) {
	d := drive.New()
	x := opened(t, d, "f")
	for _, list := range [][]string{{"a"}, {"", "b", "b"}, {strings.Repeat("x", api.MaxRecord)}, {"\x00\xff", ""}} {
		before, _ := d.Read("f")
		kept := slices.Clone(list)
		checkErr(t, "Append", x.Append(list...), api.OK)
		checkFile(t, d, "f", before+records(t, list...))
		if !slices.Equal(list, kept) {
			t.Fatalf("Append changed its list to %q", list)
		}
		list[0] = "changed"
		checkFile(t, d, "f", before+records(t, kept...))
	}
	if names := d.Names(); !slices.Equal(names, []string{"f"}) {
		t.Fatalf("Append made %q", names)
	}
	if n := operations(t, d, func() { x.Append("1", "2", "3") }); n != 2 {
		t.Fatalf("Append: %d operations, not 2", n)
	}
}

// P6.2: without payloads nothing is done, and no power is needed; a payload without bytes is one.
func TestAppendNone(t *testing.T) {
	d := drive.New()
	x := opened(t, d, "f")
	if n := operations(t, d, func() { checkErr(t, "Append", x.Append(), api.OK) }); n != 0 {
		t.Fatalf("Append of none: %d operations, not 0", n)
	}
	checkErr(t, "Append", x.Append(), api.OK)
	checkErr(t, "Append", x.Append([]string{}...), api.OK)
	checkErr(t, "Append", x.Append(""), api.ErrDown)

	d = drive.New()
	x = opened(t, d, "f")
	checkErr(t, "Append", x.Append(), api.OK)
	if names := d.Names(); len(names) != 0 {
		t.Fatalf("Append of none made %q", names)
	}
	checkErr(t, "Append", x.Append(""), api.OK)
	opened(t, d, "f", "")
}

// P6.2: a Rewrite leaves nothing of what was there, by one Swap; without payloads the file is empty.
func TestRewrite(t *testing.T) {
	d := drive.New()
	x := opened(t, d, "f")
	checkErr(t, "Append", x.Append("one", "two", "three"), api.OK)
	for _, list := range [][]string{{"a"}, {"", "b"}, nil, {strings.Repeat("x", api.MaxRecord), ""}, {}} {
		kept := slices.Clone(list)
		checkErr(t, "Rewrite", x.Rewrite(list...), api.OK)
		checkFile(t, d, "f", records(t, list...))
		if !slices.Equal(list, kept) {
			t.Fatalf("Rewrite changed its list to %q", list)
		}
	}
	if n := operations(t, d, func() { x.Rewrite("1", "2", "3") }); n != 1 {
		t.Fatalf("Rewrite: %d operations, not 1", n)
	}

	d = drive.New()
	x = opened(t, d, "f")
	if n := operations(t, d, func() { x.Rewrite() }); n != 1 {
		t.Fatalf("Rewrite to none: %d operations, not 1", n)
	}
	if names := d.Names(); !slices.Equal(names, []string{"f"}) {
		t.Fatalf("Rewrite to none made %q, not f", names)
	}
}

// P6.2: a payload that is too long, wherever it stands, is told ahead of all else, and nothing is done.
func TestBig(t *testing.T) {
	big := strings.Repeat("x", api.MaxRecord+1)
	d := drive.New()
	x := opened(t, d, "f")
	checkErr(t, "Append", x.Append("kept"), api.OK)
	n := operations(t, d, func() {
		for _, list := range [][]string{{big}, {big, "a"}, {"a", big}, {"a", big, big, "b"}} {
			checkErr(t, "Append", x.Append(list...), api.ErrBig)
			checkErr(t, "Rewrite", x.Rewrite(list...), api.ErrBig)
			checkFile(t, d, "f", records(t, "kept"))
		}
	})
	if n != 0 {
		t.Fatalf("%d operations at payloads that are too long, not 0", n)
	}
	d.Crash(nil)
	checkErr(t, "Append", x.Append("a", big), api.ErrBig)
	checkErr(t, "Rewrite", x.Rewrite("a", big), api.ErrBig)
}

// P6.2: the error of whichever operation finds the power gone, and of all behind it.
func TestDown(t *testing.T) {
	for n := 1; n <= 2; n++ {
		d := drive.New()
		x := opened(t, d, "f")
		d.Arm(n)
		checkErr(t, "Append", x.Append("a"), api.ErrDown)
		checkErr(t, "Append", x.Append("b"), api.ErrDown)
		checkErr(t, "Rewrite", x.Rewrite("c"), api.ErrDown)
		opened(t, d.Crash([]int{100}), "f", "a")
	}
	d := drive.New()
	x := opened(t, d, "f")
	d.Arm(1)
	checkErr(t, "Rewrite", x.Rewrite("a"), api.ErrDown)
	checkErr(t, "Rewrite", x.Rewrite(), api.ErrDown)
	opened(t, d.Crash([]int{100}), "f")
}

// P6.2: a nil diary answers ErrNil, whatever it is told; one that Open didn't make has no drive.
func TestNil(t *testing.T) {
	big := strings.Repeat("x", api.MaxRecord+1)
	var none *diary.Diary
	for _, list := range [][]string{nil, {"a"}, {big}} {
		checkErr(t, "Append", none.Append(list...), api.ErrNil)
		checkErr(t, "Rewrite", none.Rewrite(list...), api.ErrNil)
	}
	var zero diary.Diary
	checkErr(t, "Append", zero.Append(), api.OK)
	checkErr(t, "Append", zero.Append("a"), api.ErrNil)
	checkErr(t, "Append", zero.Append(big), api.ErrBig)
	checkErr(t, "Rewrite", zero.Rewrite(), api.ErrNil)
	checkErr(t, "Rewrite", zero.Rewrite(big), api.ErrBig)
}

// P6.1, P6.2: diaries of two files, and two of one file, go by their drive alone.
func TestTwo(t *testing.T) {
	d := drive.New()
	x, y := opened(t, d, "f"), opened(t, d, "g")
	again := opened(t, d, "f")
	checkErr(t, "Append", x.Append("a"), api.OK)
	checkErr(t, "Append", y.Append("b"), api.OK)
	checkErr(t, "Append", again.Append("c"), api.OK)
	checkErr(t, "Rewrite", y.Rewrite("d"), api.OK)
	checkErr(t, "Append", x.Append("e"), api.OK)
	opened(t, d, "f", "a", "c", "e")
	opened(t, d, "g", "d")
	checkErr(t, "Append", opened(t, d, "").Append("no name"), api.OK)
	opened(t, d, "", "no name")
}

// P6.3: a loss of power in an Append, at each operation, with each number of bytes kept, leaves a first part with all that was safe.
func TestAppendLost(t *testing.T) {
	list := []string{"b", "", "cc"}
	size := len(records(t, list...))
	for n := 1; n <= 2; n++ {
		for kept := -1; kept <= size+1; kept++ {
			d := drive.New()
			x := opened(t, d, "f")
			checkErr(t, "Append", x.Append("a", "b"), api.OK)
			d.Arm(n)
			checkErr(t, "Append", x.Append(list...), api.ErrDown)
			want := []string{"a", "b"}
			for k := range list {
				if kept >= len(records(t, list[:k+1]...)) {
					want = append(want, list[k])
				}
			}
			c := d.Crash([]int{kept})
			x = opened(t, c, "f", want...)
			checkErr(t, "Append", x.Append("z"), api.OK)
			opened(t, c.Crash(nil), "f", append(want, "z")...)
		}
	}
}

// P6.3: a Rewrite in which the power goes leaves what was there ahead of it, whatever is kept; one that was answered OK is safe.
func TestRewriteLost(t *testing.T) {
	for kept := range 40 {
		d := drive.New()
		x := opened(t, d, "f")
		checkErr(t, "Append", x.Append("a", "b"), api.OK)
		d.Arm(1)
		checkErr(t, "Rewrite", x.Rewrite("c"), api.ErrDown)
		c := d.Crash([]int{kept})
		x = opened(t, c, "f", "a", "b")
		checkErr(t, "Rewrite", x.Rewrite("c"), api.OK)
		opened(t, c.Crash([]int{kept}), "f", "c")
	}
}

// P6.3: many diaries through many losses of power, held against lists of what must and what may be found.
func TestLosses(t *testing.T) {
	for seed := range int64(200) {
		r := rand.New(rand.NewSource(seed))
		d := drive.New()
		var safe []string
		for range 20 {
			safe, d = untilLoss(t, r, d, safe)
		}
	}
}

// untilLoss opens the file, tells its diary this and that until the power goes, and answers what is found then, and the drive with it.
func untilLoss(t *testing.T, r *rand.Rand, d *drive.Drive, safe []string) ([]string, *drive.Drive) {
	t.Helper()
	x := opened(t, d, "f", safe...)
	d.Arm(1 + r.Intn(8))
	var may []string
	for !d.Down() {
		list := payloads(r)
		if r.Intn(4) == 0 {
			if err := x.Rewrite(list...); err == api.OK {
				safe = list
			} else {
				checkErr(t, "Rewrite", err, api.ErrDown)
			}
			continue
		}
		if err := x.Append(list...); err == api.OK {
			safe = append(slices.Clone(safe), list...)
		} else {
			checkErr(t, "Append", err, api.ErrDown)
			may = list
		}
	}
	c := d.Crash([]int{r.Intn(60)})
	_, found, err := diary.Open(c, "f")
	checkErr(t, "Open", err, api.OK)
	all := append(slices.Clone(safe), may...)
	if len(found) < len(safe) || len(found) > len(all) || !slices.Equal(found, all[:len(found)]) {
		t.Fatalf("found %q; %q are safe, %q may be there", found, safe, may)
	}
	return found, c
}

func payloads(r *rand.Rand) []string {
	var list []string
	for range r.Intn(4) {
		list = append(list, strings.Repeat(strconv.Itoa(r.Intn(10)), r.Intn(12)))
	}
	return list
}
