// Package octets is layer 1: see shared/doc/01-octets.md.
package octets

import (
	"bytes"
	"math/bits"

	"caravel/api"
)

// widest is how many bytes the greatest number needs.
const widest = 8

// digits are what half a byte is written with.
const digits = "0123456789abcdef"

// Put is a number in so many bytes, the highest first.
func Put(n uint64, size int) ([]byte, api.Errno) {
	if size < 1 || size > widest {
		return nil, api.ErrArg
	}
	if bits.Len64(n) > 8*size {
		return nil, api.ErrLong
	}
	b := make([]byte, size)
	for i := range b {
		b[size-1-i] = byte(n >> (8 * i))
	}
	return b, api.OK
}

// Get is the number of bytes, the highest first.
func Get(b []byte) (uint64, api.Errno) {
	if len(b) > widest {
		return 0, api.ErrLong
	}
	n := uint64(0)
	for _, c := range b {
		n = n<<8 | uint64(c)
	}
	return n, api.OK
}

// Split is bytes in parts of these sizes, and the rest as the last one.
func Split(b []byte, sizes ...int) ([][]byte, api.Errno) {
	var parts [][]byte
	for _, size := range sizes {
		if size < 0 {
			return nil, api.ErrArg
		}
		if size > len(b) {
			return nil, api.ErrCut
		}
		parts = append(parts, bytes.Clone(b[:size]))
		b = b[size:]
	}
	return append(parts, bytes.Clone(b)), api.OK
}

// Hex is bytes as they are written.
func Hex(b []byte) string {
	text := make([]byte, 0, 2*len(b))
	for _, c := range b {
		text = append(text, digits[c>>4], digits[c&15])
	}
	return string(text)
}

// Unhex is the bytes of a text.
func Unhex(s string) ([]byte, api.Errno) {
	var b []byte
	high := byte(0)
	// A digit is one byte long, so that i counts the digits too.
	for i, r := range s {
		d, ok := value(r)
		if !ok {
			return nil, api.ErrForm
		}
		if i%2 == 1 {
			b = append(b, high<<4|d)
		}
		high = d
	}
	if len(s)%2 == 1 {
		return nil, api.ErrCut
	}
	return b, api.OK
}

// value is what a digit is worth, and whether it is one.
func value(r rune) (byte, bool) {
	switch {
	case r >= '0' && r <= '9':
		return byte(r - '0'), true
	case r >= 'a' && r <= 'f':
		return byte(r-'a') + 10, true
	}
	return 0, false
}
