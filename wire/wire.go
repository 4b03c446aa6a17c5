// Package wire is layer 1: see shared/doc/01-wire.md.
//
// Uint, Int and Bytes are the bytes of a number, of one of either sign, and of bytes; GetUint, GetInt and GetBytes tell what bytes begin with, and how many of them it has; Size is how many bytes a number has; Zig makes a number of either sign one of none, Zag the other way about.
package wire

import (
	"math/bits"

	"deckle/api"
)

const (
	longest = 10  // bytes of the greatest number
	more    = 128 // what is added where another byte follows
	spare   = 1   // the most that the last of the longest bytes has room for, 63 bits lying ahead of it
)

func Uint(x uint64) []byte {
	b := make([]byte, Size(x))
	putUint(b, x)
	return b
}

func Int(x int64) []byte { return Uint(Zig(x)) }

func Bytes(b []byte) []byte {
	head := Size(uint64(len(b)))
	all := make([]byte, head+len(b))
	putUint(all[:head], uint64(len(b)))
	copy(all[head:], b)
	return all
}

// putUint fills b, which has just as many bytes as x.
func putUint(b []byte, x uint64) {
	for i := range len(b) {
		b[i] = byte(x) | more
		x >>= 7
	}
	b[len(b)-1] -= more
}

func GetUint(b []byte) (uint64, int, api.Errno) {
	var x uint64
	for i := range min(len(b), longest) {
		c := b[i]
		if c >= more {
			x |= uint64(c-more) << (7 * i)
			continue
		}
		if i == longest-1 && c > spare {
			return 0, 0, api.ErrLong
		}
		if i > 0 && c == 0 {
			return 0, 0, api.ErrForm
		}
		return x | uint64(c)<<(7*i), i + 1, api.OK
	}
	if len(b) < longest {
		return 0, 0, api.ErrShort
	}
	return 0, 0, api.ErrLong
}

func GetInt(b []byte) (int64, int, api.Errno) {
	x, n, e := GetUint(b)
	if e != api.OK {
		return 0, 0, e
	}
	return Zag(x), n, api.OK
}

func GetBytes(b []byte, most int) ([]byte, int, api.Errno) {
	x, head, e := GetUint(b)
	if e != api.OK {
		return nil, 0, e
	}
	// The number may be beyond any int: it is held against both bounds ahead of being made one.
	if most < 0 || x > uint64(most) {
		return nil, 0, api.ErrLimit
	}
	if x > uint64(len(b)-head) {
		return nil, 0, api.ErrShort
	}
	// New memory, so that a change of b later is not seen in the answer.
	got := make([]byte, int(x))
	copy(got, b[head:])
	return got, head + len(got), api.OK
}

// Size counts 0 as one bit, since it has one byte, too.
func Size(x uint64) int { return (bits.Len64(x|1) + 6) / 7 }

// Zig turns bits over instead of the sign, since the least number has no opposite.
func Zig(x int64) uint64 {
	if x < 0 {
		return ^(uint64(x) << 1)
	}
	return uint64(x) << 1
}

func Zag(x uint64) int64 {
	half := int64(x >> 1)
	if x%2 == 1 {
		return ^half
	}
	return half
}
