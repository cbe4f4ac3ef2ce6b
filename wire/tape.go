package wire

import (
	"strings"
)

const (
	groupBits = 7
	more      = 1 << groupBits // the bit of a byte that says that another group follows
	mostBytes = 10             // of a number of 64 bits
	lastMost  = 1              // what the tenth group of a number of 64 bits is at most
)

// tape is bytes that are written, or read. One method goes through a thing both ways, so that both have it alike; a method that writes leaves the thing as it is.
type tape struct {
	reads   bool
	written []byte
	rest    string // what is still to be read
	bad     bool   // what was read can be nobody's bytes
}

// fail leaves nothing to be read, so that all that would be read behind it fails too.
func (t *tape) fail() {
	t.bad = true
	t.rest = ""
}

// list goes through a list of things, each by what goes through one.
func list[T any](t *tape, things *[]T, one func(*tape, *T)) {
	n := len(*things)
	t.count(&n)
	for i := 0; i < n && !t.bad; i++ {
		if t.reads {
			var x T
			one(t, &x)
			*things = append(*things, x)
		} else {
			// A thing that was handed in isn't pointed at: its list is somebody else's.
			x := (*things)[i]
			one(t, &x)
		}
	}
}

func (t *tape) text(s *string) {
	n := len(*s)
	t.count(&n)
	if t.reads {
		// A piece of the bytes would hold all of them in memory for as long as the text is kept.
		*s = strings.Clone(t.rest[:n])
		t.rest = t.rest[n:]
		return
	}
	t.written = append(t.written, *s...)
}

// count goes through the number of what follows. Each byte and each thing takes at least one byte: where fewer are left, not all can follow.
func (t *tape) count(n *int) {
	t.numbers(n)
	if t.reads && (*n < 0 || *n > len(t.rest)) {
		t.fail()
		*n = 0
	}
}

func (t *tape) yes(b *bool) {
	var n int64
	if *b {
		n = 1
	}
	t.number(&n)
	if n != 0 && n != 1 {
		t.fail()
	}
	*b = n == 1
}

func (t *tape) numbers(fields ...*int) {
	for _, x := range fields {
		n := int64(*x)
		t.number(&n)
		*x = int(n)
	}
}

func (t *tape) number(n *int64) {
	if t.reads {
		*n = unfold(t.readGroups())
		return
	}
	t.writeGroups(fold(*n))
}

// fold answers 2 n, or, below 0, -2 n - 1, which is 2 n with all bits turned.
func fold(n int64) uint64 {
	z := uint64(n) << 1
	if n < 0 {
		return ^z
	}
	return z
}

func unfold(z uint64) int64 {
	n := z >> 1
	if z&1 == 1 {
		return int64(^n)
	}
	return int64(n)
}

func (t *tape) writeGroups(z uint64) {
	for z >= more {
		t.written = append(t.written, byte(z)|more)
		z >>= groupBits
	}
	t.written = append(t.written, byte(z))
}

func (t *tape) readGroups() uint64 {
	var z uint64
	for i := 0; i < len(t.rest) && i < mostBytes; i++ {
		b := t.rest[i]
		z |= uint64(b&^more) << (groupBits * i)
		if b&more != 0 {
			continue
		}
		if !mayEnd(b, i) {
			break
		}
		t.rest = t.rest[i+1:]
		return z
	}
	t.fail()
	return 0
}

// mayEnd answers whether the group b, behind i others, may be a number's last one: not a 0 that could be left out, nor one beyond 64 bits.
func mayEnd(b byte, i int) bool {
	if b == 0 {
		return i == 0
	}
	return i < mostBytes-1 || b <= lastMost
}
