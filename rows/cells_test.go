package rows_test

import (
	"encoding/binary"
	"math"
	"math/rand"
	"slices"
	"strings"
	"testing"

	"lintel/api"
	"lintel/rows"
)

func cell(id int, v api.Value) api.Cell { return api.Cell{Id: id, Value: v} }

func cells(list ...api.Cell) []api.Cell { return list }

// chunk answers the bytes of a cell whose key is s.
func chunk(s string) string { return string([]byte{byte(len(s))}) + s }

// sample is some cells with their bytes.
type sample struct {
	cells []api.Cell
	bytes string
}

func samples() []sample {
	nul := "\x02\x80\x00\x00\x00\x00\x00\x00"
	return []sample{
		{nil, ""},
		{cells(cell(1, api.Value{})), "\x0a" + nul + "\x01\x01"},
		{cells(cell(2, number(5))), "\x12" + nul + "\x02\x02\x80\x00\x00\x00\x00\x00\x00\x05"},
		{cells(cell(2, number(5)), cell(3, text("x"))), "\x12" + nul + "\x02\x02\x80\x00\x00\x00\x00\x00\x00\x05\x0d" + nul + "\x03\x03x\x00\x01"},
		{cells(cell(1, text("")), cell(256, api.Value{})), "\x0c" + nul + "\x01\x03\x00\x01\x0a\x02\x80\x00\x00\x00\x00\x00\x01\x00\x01"},
		{cells(cell(7, text(long("x", 64)))), "\x4c" + nul + "\x07\x03" + long("x", 64) + "\x00\x01"},
		// The longest of all.
		{cells(cell(7, text(long("\x00", 64)))), "\x8c" + nul + "\x07\x03" + long("\x00\xff", 64) + "\x00\x01"},
		{cells(cell(math.MaxInt, number(-1))), "\x12\x02\xff\xff\xff\xff\xff\xff\xff\xff\x02\x7f\xff\xff\xff\xff\xff\xff\xff"},
	}
}

// P20.2: bytes by hand, there and back.
func TestBytesByHand(t *testing.T) {
	for _, c := range samples() {
		if s, err := rows.Put(c.cells); s != c.bytes || err != api.OK {
			t.Errorf("Put(%#v): % x, %d, not % x", c.cells, s, err, c.bytes)
		}
		if s, err := rows.Put(slices.Clone(c.cells)); s != c.bytes || err != api.OK {
			t.Errorf("Put(%#v) of a copy: % x, %d, not % x", c.cells, s, err, c.bytes)
		}
		if list, err := rows.Get(c.bytes); !slices.Equal(list, c.cells) || err != api.OK {
			t.Errorf("Get(% x): %#v, %d, not %#v", c.bytes, list, err, c.cells)
		}
	}
	if s, err := rows.Put([]api.Cell{}); s != "" || err != api.OK {
		t.Errorf("Put of an empty list: % x, %d", s, err)
	}
}

// P20.2: the ids rise from 1 on, or there are no bytes.
func TestWhichIds(t *testing.T) {
	steps := []int{math.MinInt, -2, -1, 0, 1, 2, 3, 9, math.MaxInt - 1, math.MaxInt}
	for _, a := range steps {
		checkPut(t, a > 0, cell(a, number(5)))
		for _, b := range steps {
			checkPut(t, 0 < a && a < b, cell(a, number(5)), cell(b, text("x")))
			for _, c := range steps {
				checkPut(t, 0 < a && a < b && b < c, cell(a, number(5)), cell(b, text("x")), cell(c, api.Value{}))
			}
		}
	}
}

func checkPut(t *testing.T, good bool, list ...api.Cell) {
	t.Helper()
	want, wantErr := "", api.ErrForm
	if good {
		wantErr = api.OK
		for _, c := range list {
			want += chunk(bytesOf(id(c.Id), c.Value))
		}
	}
	if s, err := rows.Put(list); s != want || err != wantErr {
		t.Fatalf("Put(%#.400v): % x, %d, not % x, %d", list, s, err, want, wantErr)
	}
}

// P20.2: each value that may be, and each that may not, at each place.
func TestWhichValues(t *testing.T) {
	for _, v := range values() {
		checkPut(t, true, cell(1, v))
		checkPut(t, true, cell(1, v), cell(2, number(1)), cell(3, v))
		checkPut(t, true, cell(1, number(1)), cell(2, v), cell(3, text("")))
	}
	for _, v := range wrongs() {
		checkPut(t, false, cell(1, v))
		checkPut(t, false, cell(1, v), cell(2, number(1)), cell(3, number(1)))
		checkPut(t, false, cell(1, number(1)), cell(2, v), cell(3, number(1)))
		checkPut(t, false, cell(1, number(1)), cell(2, number(1)), cell(3, v))
	}
}

// P20.2: many cells, more than a table may have columns.
func TestManyCells(t *testing.T) {
	var list []api.Cell
	for i := range 3000 {
		list = append(list, cell(1+i*i, values()[i%len(values())]))
	}
	checkPut(t, true, list...)
	s, _ := rows.Put(list)
	if back, err := rows.Get(s); !slices.Equal(back, list) || err != api.OK {
		t.Fatalf("Get of %d cells: %d, %d", len(list), len(back), err)
	}
}

// wrongBytes are no cells'.
func wrongBytes() []string {
	good := chunk(bytesOf(number(2), text("x")))
	return []string{
		"\x00", "\x01", "\x01\x01", "\xff", "x", long("\x00", 300), long("x", 1<<16),
		chunk(""), good + "\x00", "\x00" + good,
		chunk(bytesOf(number(1))), chunk(bytesOf(number(1), number(1), number(1))), chunk(bytesOf(number(1), number(1), number(2), number(2))),
		chunk(bytesOf(api.Value{}, number(1))), chunk(bytesOf(text("1"), number(1))), chunk(bytesOf(text("x"))),
		chunk(bytesOf(number(0), number(1))), chunk(bytesOf(number(-1), number(1))), chunk(bytesOf(number(math.MinInt64), number(1))),
		good + good, good + chunk(bytesOf(number(1), number(1))), chunk(bytesOf(number(3), number(1))) + good,
		chunk(bytesOf(number(1), text(long("x", 65)))), chunk(bytesOf(number(1), text(long("x", 65)))) + good,
		good + "\x05", bytesOf(number(2), text("x")), chunk(good), chunk(bytesOf(number(2))) + chunk(bytesOf(number(5))),
		string(good[0]+1) + good[1:] + "\x01", string(good[0]-1) + good[1:],
	}
}

// P20.2: ErrForm of bytes that are no cells'.
func TestWrongBytes(t *testing.T) {
	for _, s := range wrongBytes() {
		if list, err := rows.Get(s); len(list) != 0 || err != api.ErrForm {
			t.Errorf("Get(%.200q): %#v, %d, not ErrForm", s, list, err)
		}
	}
}

// sketch answers the cells whose bytes s is by the chapter's words: another way than the program, byte by byte, from a form of the whole key.
func sketch(s string) ([]api.Cell, bool) {
	var list []api.Cell
	for len(s) > 0 {
		n := int(s[0])
		if 1+n > len(s) || n < 10 || s[1] != 2 {
			return nil, false
		}
		k, rest := s[10:1+n], s[1+n:]
		c := api.Cell{Id: int(binary.BigEndian.Uint64([]byte(s[2:10])) - 1<<63)}
		switch {
		case k == "\x01":
		case k[0] == 2 && len(k) == 9:
			c.Value = number(int64(binary.BigEndian.Uint64([]byte(k[1:])) - 1<<63))
		case k[0] == 3 && strings.HasSuffix(k, "\x00\x01"):
			in := k[1 : len(k)-2]
			c.Value = text(strings.ReplaceAll(in, "\x00\xff", "\x00"))
			if strings.ReplaceAll(c.Value.S, "\x00", "\x00\xff") != in || len(c.Value.S) > 64 {
				return nil, false
			}
		default:
			return nil, false
		}
		if c.Id < 1 || len(list) > 0 && c.Id <= list[len(list)-1].Id {
			return nil, false
		}
		list, s = append(list, c), rest
	}
	return list, true
}

// checkGet holds what Get answers against the sketch, and whether Put has these bytes for it.
func checkGet(t *testing.T, s string) bool {
	t.Helper()
	want, good := sketch(s)
	wantErr := api.OK
	if !good {
		wantErr = api.ErrForm
	}
	got, err := rows.Get(s)
	if !slices.Equal(got, want) || err != wantErr {
		t.Fatalf("Get(% x): %#v, %d, not %#v, %d", s, got, err, want, wantErr)
	}
	if good {
		checkPut(t, true, got...)
		if back, _ := rows.Put(got); back != s {
			t.Fatalf("Put of Get(% x): % x", s, back)
		}
	}
	return good
}

// P20.2: each sample cut off at each place, and each of its bytes as each other one.
func TestBytesMeddledWith(t *testing.T) {
	good := 0
	for _, c := range samples() {
		s := c.bytes
		for i := range len(s) {
			checkGet(t, s[:i])
			checkGet(t, s[i:])
			for b := range 256 {
				if checkGet(t, s[:i]+string([]byte{byte(b)})+s[i+1:]) {
					good++
				}
			}
		}
	}
	if good < 1000 {
		t.Fatalf("only %d were a row's bytes", good)
	}
}

// P20.2: cells by chance, and their bytes meddled with.
func TestBytesByChance(t *testing.T) {
	r := rand.New(rand.NewSource(20))
	var good [2]int
	for range 20000 {
		var list []api.Cell
		last := 0
		for range r.Intn(4) {
			last += 1 + r.Intn(3)
			list = append(list, cell(last, values()[r.Intn(len(values()))]))
		}
		checkPut(t, true, list...)
		s, _ := rows.Put(list)
		for range r.Intn(3) {
			s = meddle(r, s)
		}
		if checkGet(t, s) {
			good[1]++
		} else {
			good[0]++
		}
	}
	if good[0] < 2000 || good[1] < 2000 {
		t.Fatalf("%d weren't a row's bytes, %d were", good[0], good[1])
	}
}

func meddle(r *rand.Rand, s string) string {
	i := r.Intn(len(s) + 1)
	j := i + r.Intn(len(s)-i+1)
	switch r.Intn(4) {
	case 0:
		return s[:i] + string([]byte{byte(r.Intn(5))}) + s[i:]
	case 1:
		return s[:i] + s[j:]
	case 2:
		return s[:j] + s[i:]
	}
	return s[:i] + string([]byte{byte(r.Intn(256))}) + s[min(i+1, len(s)):]
}

// P20.2: the value of the cell with that id, wherever it stands; null, if there is none.
func TestOf(t *testing.T) {
	list := cells(cell(2, number(5)), cell(3, text("x")), cell(5, api.Value{}), cell(math.MaxInt, number(-1)))
	for n, want := range map[int]api.Value{
		2: number(5), 3: text("x"), 5: {}, math.MaxInt: number(-1),
		0: {}, 1: {}, 4: {}, 6: {}, -2: {}, math.MinInt: {}, math.MaxInt - 1: {},
	} {
		if got := rows.Of(list, n); got != want {
			t.Errorf("Of(%#v, %d): %#v, not %#v", list, n, got, want)
		}
		if got := rows.Of(nil, n); got != (api.Value{}) {
			t.Errorf("Of(nil, %d): %v", n, got)
		}
	}
	// Cells that no row has are looked at likewise.
	odd := cells(cell(7, number(7)), cell(0, number(1)), cell(-3, api.Value{Kind: 9, S: "x"}), cell(7, text("late")))
	for n, want := range map[int]api.Value{7: number(7), 0: number(1), -3: {Kind: 9, S: "x"}, 1: {}} {
		if got := rows.Of(odd, n); got != want {
			t.Errorf("Of(%#v, %d): %#v, not %#v", odd, n, got, want)
		}
	}
}
