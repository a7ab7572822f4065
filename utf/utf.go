// Package utf has scalars as bytes of UTF-8: layer 1.
package utf

import (
	"lontar/api"
)

// Scalar tells whether a number is a scalar.
func Scalar(s int) bool {
	return 0 <= s && s < 0xd800 || 0xdfff < s && s <= api.MaxScalar
}

// Size is how many bytes a scalar has; 0: it is none.
func Size(s int) int {
	switch {
	case !Scalar(s):
		return 0
	case s < 0x80:
		return 1
	case s < 0x800:
		return 2
	case s < 0x10000:
		return 3
	}
	return 4
}

// Put lays a scalar's bytes behind others; those of Bad, if it is none.
func Put(b []byte, s int) []byte {
	// The bytes are copied because a caller may use the room behind b for something else.
	own := make([]byte, 0, len(b)+4)
	own = append(own, b...)
	return push(own, s)
}

// push does what Put does, in place: for bytes that nobody else has.
func push(b []byte, s int) []byte {
	if !Scalar(s) {
		s = api.Bad
	}
	switch Size(s) {
	case 1:
		return append(b, byte(s))
	case 2:
		return append(b, byte(0xc0|s>>6), next(s))
	case 3:
		return append(b, byte(0xe0|s>>12), next(s>>6), next(s))
	}
	return append(b, byte(0xf0|s>>18), next(s>>12), next(s>>6), next(s))
}

// next is a byte behind the first one, which has the six lowest bits.
func next(s int) byte {
	return byte(0x80 | s&0x3f)
}

// One is the scalar that bytes begin with, and how many bytes it has: ErrForm, beside how many bytes are no more than a beginning (1 at least); ErrShort, if all bytes are one.
func One(b []byte) (int, int, api.Errno) {
	var s, size, good int // good: how many bytes are a beginning
	var low, high byte
	if len(b) == 0 {
		goto broken
	}
	size, low, high = lead(b[0])
	if size == 0 {
		goto broken
	}
	if size == 1 {
		return int(b[0]), 1, 0
	}
	s = int(b[0]) & (0x7f >> size)
	for good = 1; good < size; good++ {
		if good == len(b) || b[good] < low || b[good] > high {
			goto broken
		}
		s = s<<6 | int(b[good]&0x3f)
		low, high = 0x80, 0xbf
	}
	return s, size, 0

broken:
	if good == len(b) {
		return 0, good, api.ErrShort
	}
	// A byte that begins nothing is used up all the same: otherwise All would not end.
	return 0, max(good, 1), api.ErrForm
}

// lead is how many bytes begin with c, and the bounds of the second one; 0: none do. After e0, ed, f0 and f4 the bounds are narrower, because the others would be too long for their scalar, a surrogate, or above MaxScalar.
func lead(c byte) (size int, low, high byte) {
	switch {
	case c < 0x80:
		return 1, 0, 0
	case c < 0xc2:
		return 0, 0, 0
	case c < 0xe0:
		return 2, 0x80, 0xbf
	case c == 0xe0:
		return 3, 0xa0, 0xbf
	case c == 0xed:
		return 3, 0x80, 0x9f
	case c < 0xf0:
		return 3, 0x80, 0xbf
	case c == 0xf0:
		return 4, 0x90, 0xbf
	case c < 0xf4:
		return 4, 0x80, 0xbf
	case c == 0xf4:
		return 4, 0x80, 0x8f
	}
	return 0, 0, 0
}

// All are the tokens of bytes: scalars, and what is wrong.
func All(b []byte) []api.Token {
	var ts []api.Token
	for at := 0; at < len(b); {
		s, n, e := One(b[at:])
		t := api.Token{At: at, Len: n, Err: e}
		if e == 0 {
			t.Out = []int{s}
		}
		ts = append(ts, t)
		at += n
	}
	return ts
}

// Bytes are scalars' bytes.
func Bytes(ss []int) []byte {
	var b []byte
	for _, s := range ss {
		b = push(b, s)
	}
	return b
}
