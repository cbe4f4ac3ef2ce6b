package wire_test

import (
	"fmt"
	"math"
	"math/big"
	"math/rand"
	"reflect"
	"strings"
	"testing"

	"lintel/api"
	"lintel/wire"
)

// face is a Put and its Get, the same for all five.
type face struct {
	name string
	zero reflect.Value
	put  func(reflect.Value) string
	get  func(string) (reflect.Value, api.Errno)
}

func faceOf[T any](name string, put func(T) string, get func(string) (T, api.Errno)) face {
	var zero T
	return face{
		name: name,
		zero: reflect.ValueOf(zero),
		put:  func(v reflect.Value) string { return put(v.Interface().(T)) },
		get: func(s string) (reflect.Value, api.Errno) {
			x, err := get(s)
			return reflect.ValueOf(x), err
		},
	}
}

func faces() []face {
	return []face{
		faceOf("Msg", wire.PutMsg, wire.GetMsg),
		faceOf("Delta", wire.PutDelta, wire.GetDelta),
		faceOf("Command", wire.PutCommand, wire.GetCommand),
		faceOf("Range", wire.PutRange, wire.GetRange),
		faceOf("Plan", wire.PutPlan, wire.GetPlan),
	}
}

// The sketch is the chapter's words once more, by reflection and without a bound on numbers: it takes the fields' order from package api itself.

func sketchNumber(n *big.Int) string {
	z := new(big.Int).Mul(n, big.NewInt(2))
	if n.Sign() < 0 {
		z.Neg(z)
		z.Sub(z, big.NewInt(1))
	}
	var out []byte
	group := new(big.Int)
	for {
		z.DivMod(z, big.NewInt(128), group)
		b := byte(group.Int64())
		if z.Sign() == 0 {
			return string(append(out, b))
		}
		out = append(out, b+128)
	}
}

func sketchInt(n int) string { return sketchNumber(big.NewInt(int64(n))) }

func sketchPut(v reflect.Value) string {
	var out strings.Builder
	switch v.Kind() {
	case reflect.Int, reflect.Int64:
		out.WriteString(sketchNumber(big.NewInt(v.Int())))
	case reflect.Bool:
		out.WriteByte(map[bool]byte{false: 0, true: 2}[v.Bool()])
	case reflect.String:
		out.WriteString(sketchInt(v.Len()) + v.String())
	case reflect.Slice:
		out.WriteString(sketchInt(v.Len()))
		for i := range v.Len() {
			out.WriteString(sketchPut(v.Index(i)))
		}
	case reflect.Struct:
		for i := range v.NumField() {
			out.WriteString(sketchPut(v.Field(i)))
		}
	default:
		panic("a kind that nothing is said of: " + v.Kind().String())
	}
	return out.String()
}

// errForm is what the sketch throws where no struct has the bytes.
type errForm struct{}

type sketchReader struct{ rest string }

func (r *sketchReader) byte() byte {
	if r.rest == "" {
		panic(errForm{})
	}
	b := r.rest[0]
	r.rest = r.rest[1:]
	return b
}

func (r *sketchReader) number() int64 {
	before := r.rest
	z, place := new(big.Int), big.NewInt(1)
	for follows := true; follows; {
		b := r.byte()
		follows = b >= 128
		z.Add(z, new(big.Int).Mul(place, big.NewInt(int64(b%128))))
		place = new(big.Int).Mul(place, big.NewInt(128))
	}
	n := new(big.Int).Rsh(z, 1)
	if z.Bit(0) == 1 {
		n.Add(n, big.NewInt(1)).Neg(n)
	}
	// Written once more it must be as it was: that it has no group too many.
	if !n.IsInt64() || sketchNumber(n) != before[:len(before)-len(r.rest)] {
		panic(errForm{})
	}
	return n.Int64()
}

func (r *sketchReader) fill(v reflect.Value) {
	switch v.Kind() {
	case reflect.Int, reflect.Int64:
		v.SetInt(r.number())
	case reflect.Bool:
		n := r.number()
		if n != 0 && n != 1 {
			panic(errForm{})
		}
		v.SetBool(n == 1)
	case reflect.String:
		var out []byte
		for range r.times() {
			out = append(out, r.byte())
		}
		v.SetString(string(out))
	case reflect.Slice:
		for range r.times() {
			item := reflect.New(v.Type().Elem()).Elem()
			r.fill(item)
			v.Set(reflect.Append(v, item))
		}
	case reflect.Struct:
		for i := range v.NumField() {
			r.fill(v.Field(i))
		}
	}
}

func (r *sketchReader) times() int64 {
	n := r.number()
	if n < 0 {
		panic(errForm{})
	}
	return n
}

func sketchGet(zero reflect.Value, s string) (v reflect.Value, err api.Errno) {
	defer func() {
		if x := recover(); x != nil {
			if _, ok := x.(errForm); !ok {
				panic(x)
			}
			v, err = zero, api.ErrForm
		}
	}()
	r := &sketchReader{rest: s}
	v = reflect.New(zero.Type()).Elem()
	r.fill(v)
	if r.rest != "" {
		panic(errForm{})
	}
	return v, api.OK
}

// checkGet holds what a Get answers of s against the sketch. Structs are held against each other as bytes, so that nil and an empty list are one.
func checkGet(t *testing.T, f face, s string) api.Errno {
	t.Helper()
	want, wantErr := sketchGet(f.zero, s)
	got, err := f.get(s)
	if err != wantErr || sketchPut(got) != sketchPut(want) {
		t.Fatalf("Get%s(% x): %+v, %d, not %+v, %d", f.name, s, got, err, want, wantErr)
	}
	return err
}

// edges are numbers on both sides of where one more byte is needed, and of the least and the greatest.
func edges() []int {
	list := []int{0, math.MinInt, math.MaxInt, math.MinInt + 1, math.MaxInt - 1}
	for bits := 6; bits < 63; bits += 7 {
		n := 1 << bits
		list = append(list, n-1, n, n+1, -n-1, -n, -n+1)
	}
	return list
}

func anyNumber(r *rand.Rand) int64 {
	switch r.Intn(4) {
	case 0:
		list := edges()
		return int64(list[r.Intn(len(list))])
	case 1:
		return int64(r.Uint64()) >> r.Intn(64)
	}
	return int64(r.Intn(7) - 2)
}

// anyCount is mostly small, now and then so great that it takes two bytes.
func anyCount(r *rand.Rand, most int) int {
	if r.Intn(40) == 0 {
		return most - r.Intn(4)
	}
	return r.Intn(4)
}

// anything fills v, with lists that have spare room with something in it.
func anything(r *rand.Rand, v reflect.Value) {
	switch v.Kind() {
	case reflect.Int, reflect.Int64:
		v.SetInt(anyNumber(r))
	case reflect.Bool:
		v.SetBool(r.Intn(2) == 1)
	case reflect.String:
		b := make([]byte, anyCount(r, 130))
		r.Read(b)
		v.SetString(string(b))
	case reflect.Slice:
		n, spare := anyCount(r, 66), r.Intn(3)
		list := reflect.MakeSlice(v.Type(), n+spare, n+spare)
		for i := range n + spare {
			anything(r, list.Index(i))
		}
		v.Set(list.Slice(0, n))
	case reflect.Struct:
		for i := range v.NumField() {
			anything(r, v.Field(i))
		}
	}
}

func someStruct(r *rand.Rand, zero reflect.Value) reflect.Value {
	v := reflect.New(zero.Type()).Elem()
	anything(r, v)
	return v
}

// dump tells all of v, the spare room of its lists too.
func dump(v reflect.Value) string {
	switch v.Kind() {
	case reflect.Slice:
		out := fmt.Sprint("[", v.Len(), " of ")
		for i := range v.Cap() {
			out += dump(v.Slice(0, v.Cap()).Index(i)) + ","
		}
		return out + "]"
	case reflect.Struct:
		out := "{"
		for i := range v.NumField() {
			out += dump(v.Field(i)) + ","
		}
		return out + "}"
	}
	return fmt.Sprintf("%#v", v.Interface())
}

// P10.1: whatever a struct has in it, Put answers its bytes, and Get of these answers the struct.
func TestAnyStruct(t *testing.T) {
	r := rand.New(rand.NewSource(1))
	for _, f := range faces() {
		for range 400 {
			v := someStruct(r, f.zero)
			want := sketchPut(v)
			if s := f.put(v); s != want {
				t.Fatalf("Put%s(%+v): % x, not % x", f.name, v, s, want)
			}
			back, err := f.get(want)
			if err != api.OK || sketchPut(back) != want {
				t.Fatalf("Get%s(% x): %+v, %d, not %+v, OK", f.name, want, back, err, v)
			}
		}
	}
}

// P10.1: each Get finds its struct in bytes that were meddled with, or answers ErrForm, as the sketch does.
func TestAnyBytes(t *testing.T) {
	r := rand.New(rand.NewSource(2))
	for _, f := range faces() {
		var errs [2]int
		for range 1500 {
			s := f.put(someStruct(r, f.zero))
			for range 1 + r.Intn(2) {
				s = meddle(r, s)
			}
			if checkGet(t, f, s) == api.OK {
				errs[0]++
			} else {
				errs[1]++
			}
		}
		if errs[0] < 100 || errs[1] < 100 {
			t.Errorf("Get%s: %v OK and not OK: too few of one to tell much", f.name, errs)
		}
	}
}

func meddle(r *rand.Rand, s string) string {
	at := r.Intn(len(s) + 1)
	to := min(len(s), at+r.Intn(3))
	switch r.Intn(4) {
	case 0: // some bytes are gone
		return s[:at] + s[to:]
	case 1: // some bytes stand there twice
		return s[:to] + s[at:]
	case 2: // a number stands in the place of some
		return s[:at] + sketchInt(int(anyNumber(r))) + s[to:]
	}
	b := make([]byte, to-at)
	r.Read(b)
	return s[:at] + string(b) + s[to:]
}

// P10.1: bytes that no Put made are held against the sketch too, short ones of small numbers most of all, as they are lists and texts most often.
func TestBytesOfNobody(t *testing.T) {
	r := rand.New(rand.NewSource(3))
	for _, f := range faces() {
		for range 5000 {
			b := make([]byte, r.Intn(60))
			for i := range b {
				b[i] = byte(r.Intn(1 << r.Intn(9)))
			}
			checkGet(t, f, string(b))
		}
	}
}
