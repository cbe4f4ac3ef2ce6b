package drive_test

import (
	"math"
	"math/rand"
	"slices"
	"strconv"
	"strings"
	"testing"

	"lintel/api"
	"lintel/drive"
)

func checkErr(t *testing.T, what string, got, want api.Errno) {
	t.Helper()
	if got != want {
		t.Fatalf("%s: %d, not %d", what, got, want)
	}
}

func checkRead(t *testing.T, d *drive.Drive, name, want string) {
	t.Helper()
	if s, err := d.Read(name); s != want || err != api.OK {
		t.Fatalf("Read(%q): %q, %d, not %q, OK", name, s, err, want)
	}
}

func checkNames(t *testing.T, d *drive.Drive, want ...string) {
	t.Helper()
	if got := d.Names(); !slices.Equal(got, want) {
		t.Fatalf("Names: %q, not %q", got, want)
	}
}

func checkDown(t *testing.T, d *drive.Drive, want bool) {
	t.Helper()
	if got := d.Down(); got != want {
		t.Fatalf("Down: %v, not %v", got, want)
	}
}

// checkOff asks everything of a drive without power that needs it; it may change nothing.
func checkOff(t *testing.T, d *drive.Drive) {
	t.Helper()
	names := d.Names()
	checkDown(t, d, true)
	checkErr(t, "Append", d.Append("off", "x"), api.ErrDown)
	checkErr(t, "Sync", d.Sync("a"), api.ErrDown)
	checkErr(t, "Swap", d.Swap("off", "x"), api.ErrDown)
	for _, name := range append(slices.Clone(names), "off") {
		if s, err := d.Read(name); s != "" || err != api.ErrDown {
			t.Fatalf("Read(%q): %q, %d, not nothing, ErrDown", name, s, err)
		}
	}
	d.Arm(1)
	d.Arm(0)
	checkDown(t, d, true)
	checkNames(t, d, names...)
}

func appended(t *testing.T, d *drive.Drive, name, data string) {
	t.Helper()
	checkErr(t, "Append", d.Append(name, data), api.OK)
}

func synced(t *testing.T, d *drive.Drive, name string) {
	t.Helper()
	checkErr(t, "Sync", d.Sync(name), api.OK)
}

func swapped(t *testing.T, d *drive.Drive, name, data string) {
	t.Helper()
	checkErr(t, "Swap", d.Swap(name, data), api.OK)
}

// example answers the chapter's drive: xy is safe in a, z stands behind it.
func example(t *testing.T) *drive.Drive {
	t.Helper()
	d := drive.New()
	appended(t, d, "a", "xy")
	synced(t, d, "a")
	appended(t, d, "a", "z")
	return d
}

// P5.1 to P5.3: the chapter's examples.
func TestExamples(t *testing.T) {
	checkRead(t, example(t).Crash(nil), "a", "xy")
	checkRead(t, example(t).Crash([]int{1}), "a", "xyz")
	d := example(t)
	d.Arm(1)
	checkErr(t, "Append", d.Append("a", "q"), api.ErrDown)
	checkOff(t, d)
}

// P5.1: a new drive has its power and no files.
func TestNew(t *testing.T) {
	d := drive.New()
	checkDown(t, d, false)
	checkNames(t, d)
	checkRead(t, d, "a", "")
	checkNames(t, d)
}

// P5.1: an Append puts data behind what is there; none of it is safe, whatever was safe ahead of it.
func TestAppend(t *testing.T) {
	d := drive.New()
	appended(t, d, "a", "one")
	appended(t, d, "b", "")
	checkRead(t, d, "a", "one")
	checkRead(t, d, "b", "")
	checkNames(t, d, "a", "b")
	appended(t, d, "a", "\x00two\xff")
	appended(t, d, "a", "")
	checkRead(t, d, "a", "one\x00two\xff")
	c := d.Crash(nil)
	checkNames(t, c, "a", "b")
	checkRead(t, c, "a", "")
	appended(t, c, "", "the name without bytes")
	checkRead(t, c, "", "the name without bytes")
	checkNames(t, c, "", "a", "b")
}

// P5.1: a Sync makes all bytes of one file safe, leaves other files alone, and makes none.
func TestSync(t *testing.T) {
	d := drive.New()
	appended(t, d, "a", "one")
	appended(t, d, "b", "two")
	appended(t, d, "a", "three")
	synced(t, d, "a")
	synced(t, d, "c")
	checkNames(t, d, "a", "b")
	checkRead(t, d, "a", "onethree")
	synced(t, d, "a")
	c := d.Crash(nil)
	checkNames(t, c, "a", "b")
	checkRead(t, c, "a", "onethree")
	checkRead(t, c, "b", "")
}

// P5.1: a Swap leaves nothing of what was there, and is safe at once; what is appended behind it isn't.
func TestSwap(t *testing.T) {
	d := drive.New()
	appended(t, d, "a", "a long text")
	synced(t, d, "a")
	appended(t, d, "a", " that is not all safe")
	swapped(t, d, "a", "new")
	swapped(t, d, "b", "made")
	swapped(t, d, "c", "")
	checkRead(t, d, "a", "new")
	checkRead(t, d, "b", "made")
	checkNames(t, d, "a", "b", "c")
	appended(t, d, "a", "er")
	checkRead(t, d, "a", "newer")
	c := d.Crash(nil)
	checkRead(t, c, "a", "new")
	checkRead(t, c, "b", "made")
	checkRead(t, c, "c", "")
	checkNames(t, c, "a", "b", "c")
	swapped(t, c, "a", "")
	checkRead(t, c.Crash(nil), "a", "")
}

// P5.1: of the Append that finds the power gone the bytes are there, but not safe, also in a file that it makes.
func TestPowerGoesAtAppend(t *testing.T) {
	d := example(t)
	d.Arm(1)
	checkDown(t, d, false)
	checkErr(t, "Append", d.Append("a", "q"), api.ErrDown)
	checkOff(t, d)
	checkRead(t, d.Crash(nil), "a", "xy")
	checkRead(t, d.Crash([]int{2}), "a", "xyzq")
	d = example(t)
	d.Arm(1)
	checkErr(t, "Append", d.Append("A", "pqr"), api.ErrDown)
	checkNames(t, d, "A", "a")
	c := d.Crash([]int{2, 1})
	checkRead(t, c, "A", "pq")
	checkRead(t, c, "a", "xyz")
}

// P5.1: a Sync that finds the power gone makes nothing safe.
func TestPowerGoesAtSync(t *testing.T) {
	d := example(t)
	d.Arm(1)
	checkErr(t, "Sync", d.Sync("a"), api.ErrDown)
	checkOff(t, d)
	checkRead(t, d.Crash(nil), "a", "xy")
	checkRead(t, d.Crash([]int{9}), "a", "xyz")
}

// P5.1: a Swap that finds the power gone leaves the file as it was, and makes none.
func TestPowerGoesAtSwap(t *testing.T) {
	for _, name := range []string{"a", "b"} {
		d := example(t)
		d.Arm(1)
		checkErr(t, "Swap", d.Swap(name, "other"), api.ErrDown)
		checkOff(t, d)
		checkNames(t, d, "a")
		checkRead(t, d.Crash(nil), "a", "xy")
		checkRead(t, d.Crash([]int{9}), "a", "xyz")
	}
}

// P5.1: every operation counts, also a Sync of no file and an Append of no bytes; the calls that are none don't.
func TestWhatCounts(t *testing.T) {
	d := drive.New()
	d.Arm(5)
	appended(t, d, "a", "")
	synced(t, d, "no such file")
	synced(t, d, "a")
	swapped(t, d, "a", "x")
	for range 9 {
		checkRead(t, d, "a", "x")
		checkRead(t, d, "b", "")
		checkNames(t, d, "a")
		checkDown(t, d, false)
	}
	checkErr(t, "Sync", d.Sync("no such file"), api.ErrDown)
	checkOff(t, d)
}

// P5.2: Read answers safe and other bytes, as they are at that moment.
func TestRead(t *testing.T) {
	d := example(t)
	was, err := d.Read("a")
	checkErr(t, "Read", err, api.OK)
	appended(t, d, "a", "more")
	checkRead(t, d, "a", "xyzmore")
	swapped(t, d, "a", "123")
	if was != "xyz" {
		t.Fatalf("what was read became %q", was)
	}
	checkRead(t, d, "no such file", "")
	checkNames(t, d, "a")
}

// P5.2: the names rise byte by byte, with and without power, in memory of their own.
func TestNames(t *testing.T) {
	rising := []string{"", "\x00", "10", "9", "Z", "a", "a\x00", "aa", "b", "\x80", "\xc3\xa9", "\xff"}
	d := drive.New()
	for i := range rising {
		appended(t, d, rising[(i*5+3)%len(rising)], "x")
	}
	checkNames(t, d, rising...)
	clear(d.Names())
	checkNames(t, d, rising...)
	d.Arm(1)
	checkErr(t, "Sync", d.Sync("a"), api.ErrDown)
	checkNames(t, d, rising...)
	c := d.Crash(nil)
	checkNames(t, c, rising...)
	checkNames(t, d, rising...)
}

// P5.2: Arm(n) leaves n - 1 operations; what was armed earlier doesn't count any more.
func TestArm(t *testing.T) {
	for n := 1; n <= 6; n++ {
		d := drive.New()
		d.Arm(n)
		for range n - 1 {
			appended(t, d, "a", "x")
		}
		checkErr(t, "Append", d.Append("a", "x"), api.ErrDown)
		checkRead(t, d.Crash([]int{99}), "a", strings.Repeat("x", n))
	}
	d := drive.New()
	d.Arm(1)
	d.Arm(3)
	appended(t, d, "a", "x")
	d.Arm(2)
	appended(t, d, "a", "y")
	checkErr(t, "Swap", d.Swap("a", "z"), api.ErrDown)
	checkOff(t, d)
}

// P5.2: below 1 no operation finds the power gone, also if one was named earlier.
func TestArmNone(t *testing.T) {
	for _, n := range []int{0, -1, math.MinInt} {
		d := drive.New()
		d.Arm(n)
		appended(t, d, "a", "x")
		d.Arm(1)
		d.Arm(n)
		for range 20 {
			swapped(t, d, "a", "y")
		}
		checkDown(t, d, false)
	}
	d := drive.New()
	d.Arm(math.MaxInt)
	for range 20 {
		synced(t, d, "a")
	}
	checkDown(t, d, false)
}

// P5.2: Arm does nothing without power: neither does it come back, nor is the next drive armed.
func TestArmOff(t *testing.T) {
	d := example(t)
	d.Arm(7)
	d.Crash(nil)
	d.Arm(1)
	checkOff(t, d)
	d.Arm(1)
	c := d.Crash(nil)
	for range 9 {
		appended(t, c, "a", "x")
	}
	checkOff(t, d)
}

// P5.3: of each file the safe bytes and as many others as keep says.
func TestCrashKeep(t *testing.T) {
	for _, c := range []struct {
		keep []int
		a, b string
	}{
		{nil, "12", ""},
		{[]int{}, "12", ""},
		{[]int{0}, "12", ""},
		{[]int{1}, "123", ""},
		{[]int{2, 1}, "1234", "x"},
		{[]int{3, 2}, "12345", "xy"},
		{[]int{4, 3}, "12345", "xyz"},
		{[]int{-1, 4}, "12", "xyz"},
		{[]int{math.MinInt, math.MaxInt}, "12", "xyz"},
		{[]int{math.MaxInt, math.MinInt}, "12345", ""},
		{[]int{0, 0, 9, 9, 9}, "12", ""},
	} {
		d := drive.New()
		appended(t, d, "b", "xyz")
		swapped(t, d, "a", "12")
		appended(t, d, "a", "345")
		keep := slices.Clone(c.keep)
		next := d.Crash(keep)
		checkNames(t, next, "a", "b")
		checkRead(t, next, "a", c.a)
		checkRead(t, next, "b", c.b)
		if !slices.Equal(keep, c.keep) {
			t.Fatalf("keep became %v", keep)
		}
	}
}

// P5.3: keep goes by the files' names, not by when they were made.
func TestCrashByName(t *testing.T) {
	d := drive.New()
	const names = "hfbdgace"
	for i := range names {
		appended(t, d, names[i:i+1], "12345678")
	}
	c := d.Crash([]int{0, 1, 2, 3, 4, 5, 6, 7})
	for k, name := range c.Names() {
		checkRead(t, c, name, "12345678"[:k])
	}
}

// P5.3: the new drive has power, isn't armed, and all that it has is safe; what comes behind isn't.
func TestCrashNew(t *testing.T) {
	d := example(t)
	d.Arm(1)
	c := d.Crash([]int{1})
	checkDown(t, c, false)
	for range 9 {
		appended(t, c, "a", "+")
	}
	again := c.Crash([]int{2})
	checkRead(t, again, "a", "xyz++")
	checkRead(t, again.Crash(nil), "a", "xyz++")
	checkNames(t, drive.New().Crash([]int{1, 2}))
}

// P5.3: the old drive has no power, keeps its files, and may crash again; no two drives meet.
func TestCrashOld(t *testing.T) {
	d := example(t)
	one := d.Crash([]int{1})
	checkOff(t, d)
	two := d.Crash([]int{1})
	if one == two || one == d {
		t.Fatal("Crash answered a drive that was there")
	}
	appended(t, one, "a", "1")
	appended(t, two, "a", "2")
	appended(t, two, "b", "2")
	checkRead(t, one, "a", "xyz1")
	checkRead(t, two, "a", "xyz2")
	checkNames(t, one, "a")
	checkNames(t, d, "a")
	checkRead(t, d.Crash([]int{9}), "a", "xyz")
	checkOff(t, d)
	two.Arm(1)
	checkErr(t, "Sync", two.Sync("a"), api.ErrDown)
	checkDown(t, one, false)
}

// P5.1 to P5.3: a nil drive does nothing.
func TestNilDrive(t *testing.T) {
	var d *drive.Drive
	checkErr(t, "Append", d.Append("a", "x"), api.ErrNil)
	checkErr(t, "Sync", d.Sync("a"), api.ErrNil)
	checkErr(t, "Swap", d.Swap("a", "x"), api.ErrNil)
	if s, err := d.Read("a"); s != "" || err != api.ErrNil {
		t.Fatalf("Read: %q, %d", s, err)
	}
	checkNames(t, d)
	d.Arm(1)
	checkDown(t, d, true)
	if d.Crash(nil) != nil || d.Crash([]int{1}) != nil {
		t.Fatal("Crash of nil is not nil")
	}
}

// P5.1 to P5.3: a Drive that New didn't make is one without files.
func TestZeroDrive(t *testing.T) {
	checkNames(t, new(drive.Drive))
	checkDown(t, new(drive.Drive), false)
	checkRead(t, new(drive.Drive), "a", "")
	synced(t, new(drive.Drive), "a")
	checkNames(t, new(drive.Drive).Crash(nil))
	var d drive.Drive
	appended(t, &d, "a", "x")
	checkRead(t, &d, "a", "x")
	var s drive.Drive
	swapped(t, &s, "a", "x")
	checkRead(t, s.Crash(nil), "a", "x")
}

// plain is a drive in the plainest way: lists of names, and bytes as strings.
type plain struct {
	names []string
	safe  []string
	other []string
	left  int
	down  bool
}

func (p *plain) at(name string) int {
	k, ok := slices.BinarySearch(p.names, name)
	if !ok {
		p.names = slices.Insert(p.names, k, name)
		p.safe = slices.Insert(p.safe, k, "")
		p.other = slices.Insert(p.other, k, "")
	}
	return k
}

// goes says whether an operation finds the power gone.
func (p *plain) goes() bool {
	p.left--
	p.down = p.left == 0
	return p.down
}

func (p *plain) operate(kind int, name, data string) api.Errno {
	if p.down {
		return api.ErrDown
	}
	gone := p.goes()
	switch {
	case kind == 0:
		p.other[p.at(name)] += data
	case kind == 1 && !gone && slices.Contains(p.names, name):
		k := p.at(name)
		p.safe[k], p.other[k] = p.safe[k]+p.other[k], ""
	case kind == 2 && !gone:
		k := p.at(name)
		p.safe[k], p.other[k] = data, ""
	}
	if gone {
		return api.ErrDown
	}
	return api.OK
}

func (p *plain) crash(keep []int) {
	for k := range p.names {
		n := 0
		if k < len(keep) {
			n = min(max(keep[k], 0), len(p.other[k]))
		}
		p.safe[k], p.other[k] = p.safe[k]+p.other[k][:n], ""
	}
	p.left, p.down = 0, false
}

func (p *plain) check(t *testing.T, d *drive.Drive) {
	t.Helper()
	checkDown(t, d, p.down)
	checkNames(t, d, p.names...)
	if p.down {
		return
	}
	for k, name := range p.names {
		checkRead(t, d, name, p.safe[k]+p.other[k])
	}
}

func operate(d *drive.Drive, kind int, name, data string) api.Errno {
	switch kind {
	case 0:
		return d.Append(name, data)
	case 1:
		return d.Sync(name)
	}
	return d.Swap(name, data)
}

// P5.1 to P5.3: long mixed runs go as those of the plain drive.
func TestAgainstPlain(t *testing.T) {
	for seed := range int64(200) {
		r := rand.New(rand.NewSource(seed))
		d, p := drive.New(), &plain{}
		for range 150 {
			switch r.Intn(8) {
			case 0:
				n := r.Intn(9) - 2
				d.Arm(n)
				if !p.down {
					p.left = max(n, 0)
				}
			case 1:
				keep := make([]int, r.Intn(6))
				for k := range keep {
					keep[k] = r.Intn(12) - 2
				}
				d = d.Crash(keep)
				p.crash(keep)
			default:
				kind, name := r.Intn(3), string(rune('a'+r.Intn(5)))
				data := strconv.Itoa(r.Intn(10000) + 1000)[:r.Intn(5)]
				checkErr(t, "operation", operate(d, kind, name, data), p.operate(kind, name, data))
			}
			p.check(t, d)
		}
	}
}
