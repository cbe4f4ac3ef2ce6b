package strip_test

import (
	"encoding/binary"
	"hash/crc32"
	"math"
	"slices"
	"strings"
	"testing"

	"lintel/api"
	"lintel/strip"
)

// frame lays a length, the right sum and a payload behind one another, whether or not they make a record.
func frame(length uint32, payload string) string {
	out := binary.BigEndian.AppendUint32(nil, length)
	sum := crc32.ChecksumIEEE([]byte(string(out) + payload))
	return string(binary.LittleEndian.AppendUint32(out, sum)) + payload
}

func record(payload string) string { return frame(uint32(len(payload)), payload) }

// counted answers n bytes that go through all values of a byte.
func counted(n int) string {
	out := make([]byte, n)
	for i := range out {
		out[i] = byte(i)
	}
	return string(out)
}

func payloads() []string {
	return []string{
		"", "\x00", "\x01", "\xff", "a", "123456789", "\x00\x00\x00\x00", "\xff\xff\xff\xff",
		"h\xc3\xa9", "\xed\xa0\x80", "a\x00b\n", counted(255), counted(256), counted(257),
		strings.Repeat("\x00", 70), record(""), record("inside"), counted(65535), counted(api.MaxRecord),
	}
}

func checkScan(t *testing.T, s string, want []string, size int) {
	t.Helper()
	got, n := strip.Scan(s)
	if !slices.Equal(got, want) || n != size {
		t.Fatalf("Scan of %d bytes %.40q: %d payloads %.60q and %d bytes, not %d payloads %.60q and %d bytes", len(s), s, len(got), got, n, len(want), want, size)
	}
}

// P3.1: sums that are known.
func TestSumOfKnownTexts(t *testing.T) {
	known := []struct {
		s    string
		want uint32
	}{
		{"", 0},
		{"123456789", 0xCBF43926},
		{"\x00", 0xD202EF8D},
		{"\x00\x00\x00\x00", 0x2144DF1C},
		{"\xff\xff\xff\xff", 0xFFFFFFFF},
		{"a", 0xE8B7BE43},
		{"The quick brown fox jumps over the lazy dog", 0x414FA339},
	}
	for _, k := range known {
		if got := strip.Sum(k.s); got != k.want {
			t.Errorf("Sum(%q): %08X, not %08X", k.s, got, k.want)
		}
	}
}

// P3.1: the sum is the one of zip, for all texts of one byte and of two, and for longer ones, beyond a record too.
func TestSumIsThatOfZip(t *testing.T) {
	check := func(s string) {
		if got, want := strip.Sum(s), crc32.ChecksumIEEE([]byte(s)); got != want {
			t.Fatalf("Sum of %d bytes %.40q: %08X, not %08X", len(s), s, got, want)
		}
	}
	for a := range 256 {
		check(string([]byte{byte(a)}))
		for b := range 256 {
			check(string([]byte{byte(a), byte(b)}))
		}
	}
	for _, s := range payloads() {
		check(s)
	}
	check(counted(3 * api.MaxRecord))
}

// P3.1: records byte by byte.
func TestPutByteByByte(t *testing.T) {
	known := []struct{ payload, want string }{
		{"", "\x00\x00\x00\x00\x1c\xdf\x44\x21"},
		{"\x00", "\x00\x00\x00\x01\x5c\xc6\x39\xdf\x00"},
		{"a", "\x00\x00\x00\x01\x92\x97\x8c\xe5a"},
		{"123456789", "\x00\x00\x00\x09\xc0\x40\x9c\xde123456789"},
	}
	for _, k := range known {
		got, e := strip.Put(k.payload)
		if got != k.want || e != api.OK {
			t.Errorf("Put(%q): %x, %d, not %x", k.payload, got, e, k.want)
		}
	}
}

// P3.1: the length stands highest byte first, the sum lowest byte first, the payload as it is.
func TestPutHasLengthSumPayload(t *testing.T) {
	for _, p := range payloads() {
		got, e := strip.Put(p)
		if got != record(p) || e != api.OK {
			t.Errorf("Put of %d bytes %.20q: %d bytes %.20q, %d", len(p), p, len(got), got, e)
		}
	}
}

// P3.1: a payload of MaxRecord bytes has a record, a longer one has none.
func TestPutRefusesWhatIsTooLong(t *testing.T) {
	for _, n := range []int{api.MaxRecord - 1, api.MaxRecord} {
		if got, e := strip.Put(counted(n)); e != api.OK || len(got) != n+8 {
			t.Errorf("Put of %d bytes: %d bytes, %d", n, len(got), e)
		}
	}
	for _, n := range []int{api.MaxRecord + 1, api.MaxRecord + 256, 2 * api.MaxRecord, 1 << 20} {
		if got, e := strip.Put(counted(n)); e != api.ErrBig || got != "" {
			t.Errorf("Put of %d bytes: %d bytes, %d, not ErrBig", n, len(got), e)
		}
	}
}

// P3.2: what holds no record.
func TestScanOfNoRecord(t *testing.T) {
	for _, s := range []string{
		"", "\x00", "\x00\x00\x00\x00", "\x00\x00\x00\x00\x1c\xdf\x44", "no record at all",
		strings.Repeat("\x00", 8), strings.Repeat("\xff", 8), strings.Repeat("\x00", 1000),
		"\x00\x00\x00\x00\x21\x44\xdf\x1c",  // the sum's bytes turned
		"\x01\x00\x00\x00\x92\x97\x8c\xe5a", // the length's bytes turned
		"\x00" + record("a"),
	} {
		checkScan(t, s, nil, 0)
	}
}

// P3.2: a sum without the length's bytes isn't right.
func TestScanSumsTheLengthToo(t *testing.T) {
	for _, p := range []string{"", "a", "123456789"} {
		s := binary.BigEndian.AppendUint32(nil, uint32(len(p)))
		s = binary.LittleEndian.AppendUint32(s, crc32.ChecksumIEEE([]byte(p)))
		checkScan(t, string(s)+p, nil, 0)
	}
}

// P3.2: records one behind the other, and what may stand behind them.
func TestScanOfRecords(t *testing.T) {
	all := payloads()
	var s string
	for i, p := range all {
		checkScan(t, record(p), []string{p}, len(p)+8)
		s += record(p)
		for _, tail := range []string{"", "\x00", "\xff", strings.Repeat("\x00", 8), "some other bytes"} {
			checkScan(t, s+tail, all[:i+1], len(s))
		}
	}
	checkScan(t, record("")+"\x00", []string{""}, 8)
	checkScan(t, strings.Repeat(record(""), 500), make([]string, 500), 4000)
}

// P3.2: nothing is told that stands behind a record that isn't whole.
func TestScanEndsAtWhatIsNotWhole(t *testing.T) {
	good := record("one") + record("two")
	bad := "\x00\x00\x00\x03\x00\x00\x00\x00bad"
	checkScan(t, good+bad+record("three"), []string{"one", "two"}, len(good))
	checkScan(t, bad+good, nil, 0)
	checkScan(t, good+"\x00"+good, []string{"one", "two"}, len(good))
}

// P3.2: a length beyond MaxRecord is none, though all is there and the sum is right.
func TestScanOfLengthsAtTheLimit(t *testing.T) {
	first := record("first")
	for _, n := range []int{api.MaxRecord - 1, api.MaxRecord} {
		checkScan(t, first+record(counted(n))+record("last"), []string{"first", counted(n), "last"}, len(first)+n+8+12)
	}
	for _, n := range []int{api.MaxRecord + 1, api.MaxRecord + 256, 2 * api.MaxRecord, 1 << 20} {
		checkScan(t, first+record(counted(n))+record("last"), []string{"first"}, len(first))
	}
}

// P3.2: lengths that go beyond what is there, or beyond a number of 31 bits, the sum right for what is there.
func TestScanOfLengthsBeyondTheEnd(t *testing.T) {
	for _, p := range []string{"", "a", "123456789"} {
		for _, n := range []uint32{uint32(len(p)) + 1, 255, 256, api.MaxRecord, 1 << 24, math.MaxInt32, 1 << 31, math.MaxUint32 - 8, math.MaxUint32 - 7, math.MaxUint32} {
			checkScan(t, frame(n, p), nil, 0)
			checkScan(t, record("x")+frame(n, p), []string{"x"}, 9)
		}
	}
}

// P3.2: a length that is less than it was makes a record of its own only with a sum of its own.
func TestScanOfLengthsThatAreLess(t *testing.T) {
	whole := "123456789"
	for n := range len(whole) {
		checkScan(t, frame(uint32(n), whole), nil, 0)
		checkScan(t, frame(uint32(n), whole[:n])+whole[n:], []string{whole[:n]}, n+8)
	}
}

// P3.2: any one byte changed is seen in the record that it is in.
func TestScanSeesDamage(t *testing.T) {
	first, second := record("first"), record("the second")
	s := first + second
	for i := range s {
		want, size := []string{"first"}, len(first)
		if i < len(first) {
			want, size = nil, 0
		}
		for b := range 256 {
			if byte(b) != s[i] {
				checkScan(t, s[:i]+string([]byte{byte(b)})+s[i+1:], want, size)
			}
		}
	}
	long := record(counted(api.MaxRecord))
	for i := 0; i < len(long); i += 4099 {
		checkScan(t, long[:i]+string([]byte{long[i] ^ 0x10})+long[i+1:], nil, 0)
	}
}

// P3.3: records cut off anywhere: those that are all there are told.
func TestScanOfWhatIsCutOff(t *testing.T) {
	some := []string{"", "a", "", "\x00\x00", counted(300), record("inside"), "", "last"}
	var s string
	var ends []int
	for _, p := range some {
		r, e := strip.Put(p)
		if e != api.OK {
			t.Fatal(e)
		}
		s += r
		ends = append(ends, len(s))
	}
	for cut := range len(s) + 1 {
		there, size := 0, 0
		for there < len(ends) && ends[there] <= cut {
			size = ends[there]
			there++
		}
		checkScan(t, s[:cut], some[:there], size)
	}
}

// P3.3: a long record that is cut off is not told, the one ahead of it is.
func TestScanOfALongRecordCutOff(t *testing.T) {
	s := record("ahead") + record(counted(api.MaxRecord))
	for _, cut := range []int{13, 14, 17, 20, 21, 22, 1000, len(s) - 2, len(s) - 1} {
		checkScan(t, s[:cut], []string{"ahead"}, 13)
	}
	checkScan(t, s, []string{"ahead", counted(api.MaxRecord)}, len(s))
}

// P3.2: what Scan tells of a strip is what it tells of the part that it counted, and the list is the caller's own.
func TestScanAnswersNewMemory(t *testing.T) {
	s := record("one") + record("two") + "rest"
	a, n := strip.Scan(s)
	a[0] = "changed"
	b, m := strip.Scan(s[:n])
	if !slices.Equal(b, []string{"one", "two"}) || m != n {
		t.Fatal(b, m)
	}
}

// P3.1, P3.2: calls go side by side, and nothing is kept from one to the next.
func TestCallsDoNotMeet(t *testing.T) {
	s := record("one") + record("two")
	done := make(chan bool)
	for range 8 {
		go func() {
			ok := true
			for range 50 {
				l, n := strip.Scan(s)
				r, e := strip.Put("one")
				ok = ok && slices.Equal(l, []string{"one", "two"}) && n == len(s) && r == s[:11] && e == api.OK
			}
			done <- ok
		}()
	}
	for range 8 {
		if !<-done {
			t.Error("calls side by side answered otherwise")
		}
	}
}
