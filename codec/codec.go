// Package codec is layer 1, bytes: see shared/doc/01-codec.md.
package codec

import (
	"math/bits"
	"slices"

	"lightclient/api"
)

// First bytes of the sizes of more than one byte; a lower first byte is the size itself.
const (
	mark16 = 253
	mark32 = 254
	mark64 = 255
)

// Every Append function goes through slices.Concat and not through append, because append would write into free memory behind b, which the caller may be using.

// AppendU16 returns b and n in 2 bytes.
func AppendU16(b []byte, n uint16) []byte { return slices.Concat(b, little(uint64(n), 2)) }

// AppendU32 returns b and n in 4 bytes.
func AppendU32(b []byte, n uint32) []byte { return slices.Concat(b, little(uint64(n), 4)) }

// AppendU64 returns b and n in 8 bytes.
func AppendU64(b []byte, n uint64) []byte { return slices.Concat(b, little(n, 8)) }

// AppendSize returns b and n in the shortest encoding of a size.
func AppendSize(b []byte, n uint64) []byte { return slices.Concat(b, size(n)) }

// AppendBytes returns b and the byte string s, its size first.
func AppendBytes(b, s []byte) []byte { return slices.Concat(b, size(uint64(len(s))), s) }

// AppendHash returns b and the 32 bytes of h.
func AppendHash(b []byte, h api.Hash) []byte { return slices.Concat(b, h[:]) }

// little returns the lowest bytes of n, as many as width says, the lowest first.
func little(n uint64, width int) []byte {
	r := make([]byte, 0, width)
	for i := range width {
		r = append(r, byte(n>>(8*i)))
	}
	return r
}

// size returns the shortest encoding of n as a size.
func size(n uint64) []byte {
	switch {
	case n < mark16:
		return little(n, 1)
	case n < 1<<16:
		return AppendU16([]byte{mark16}, uint16(n))
	case n < 1<<32:
		return AppendU32([]byte{mark32}, uint32(n))
	}
	return AppendU64([]byte{mark64}, n)
}

// unsigned are the types of the integers that are read.
type unsigned interface {
	uint8 | uint16 | uint32 | uint64
}

// need tells why a part of width bytes cannot be read at the place at. It compares width with what is left, because at + width may overflow.
func need(b []byte, at, width int) api.Errno {
	if at < 0 || at > len(b) {
		return api.ErrRange
	}
	if len(b)-at < width {
		return api.ErrShort
	}
	return api.OK
}

// integer reads an integer in as many bytes as its type has.
func integer[T unsigned](b []byte, at int) (T, int, api.Errno) {
	width := bits.Len64(uint64(^T(0))) / 8
	if e := need(b, at, width); e != api.OK {
		return 0, 0, e
	}
	var n T
	for i := range width {
		n |= T(b[at+i]) << (8 * i)
	}
	return n, at + width, api.OK
}

// U8 reads an integer of 1 byte and returns the place behind it.
func U8(b []byte, at int) (byte, int, api.Errno) { return integer[uint8](b, at) }

// U16 reads an integer of 2 bytes and returns the place behind it.
func U16(b []byte, at int) (uint16, int, api.Errno) { return integer[uint16](b, at) }

// U32 reads an integer of 4 bytes and returns the place behind it.
func U32(b []byte, at int) (uint32, int, api.Errno) { return integer[uint32](b, at) }

// U64 reads an integer of 8 bytes and returns the place behind it.
func U64(b []byte, at int) (uint64, int, api.Errno) { return integer[uint64](b, at) }

// Size reads a size of at most most and returns the place behind it.
func Size(b []byte, at int, most uint64) (uint64, int, api.Errno) {
	n, next, e := anySize(b, at)
	if e != api.OK {
		return 0, 0, e
	}
	if n > most {
		return 0, 0, api.ErrLimit
	}
	return n, next, api.OK
}

// anySize reads a size however great it is.
func anySize(b []byte, at int) (uint64, int, api.Errno) {
	first, next, e := U8(b, at)
	if e != api.OK {
		return 0, 0, e
	}
	switch first {
	case mark16:
		return wideSize[uint16](b, next, mark16)
	case mark32:
		return wideSize[uint32](b, next, 1<<16)
	case mark64:
		return wideSize[uint64](b, next, 1<<32)
	}
	return uint64(first), next, api.OK
}

// wideSize reads what follows the mark of a size; numbers below least have a shorter encoding.
func wideSize[T unsigned](b []byte, at int, least T) (uint64, int, api.Errno) {
	n, next, e := integer[T](b, at)
	if e != api.OK {
		return 0, 0, e
	}
	if n < least {
		return 0, 0, api.ErrCanonical
	}
	return uint64(n), next, api.OK
}

// Bytes reads a byte string of at most most bytes and returns the place behind it.
func Bytes(b []byte, at, most int) ([]byte, int, api.Errno) {
	if most < 0 {
		return nil, 0, api.ErrRange
	}
	n, start, e := Size(b, at, uint64(most))
	if e != api.OK {
		return nil, 0, e
	}
	// most is an int, so n, which is not above it, is one too.
	if e := need(b, start, int(n)); e != api.OK {
		return nil, 0, e
	}
	next := start + int(n)
	return slices.Concat(b[start:next]), next, api.OK
}

// Hash reads a digest and returns the place behind it.
func Hash(b []byte, at int) (api.Hash, int, api.Errno) {
	var h api.Hash
	if e := need(b, at, len(h)); e != api.OK {
		return api.Hash{}, 0, e
	}
	copy(h[:], b[at:])
	return h, at + len(h), api.OK
}

// End tells whether at is the end of b.
func End(b []byte, at int) api.Errno {
	if e := need(b, at, 0); e != api.OK {
		return e
	}
	if at < len(b) {
		return api.ErrTrailing
	}
	return api.OK
}

const digits = "0123456789abcdef"

// Hex returns b as text, two digits for each byte.
func Hex(b []byte) string {
	r := make([]byte, 0, 2*len(b))
	for _, x := range b {
		r = append(r, digits[x>>4], digits[x&15])
	}
	return string(r)
}

// Unhex returns the bytes of a text of digits of base 16, two for each byte, small or capital.
func Unhex(s string) ([]byte, api.Errno) {
	if len(s) > 2*api.MaxBytes {
		return nil, api.ErrLimit
	}
	if len(s)%2 != 0 {
		return nil, api.ErrText
	}
	r := make([]byte, 0, len(s)/2)
	for i := range len(s) / 2 {
		high, ok := digit(s[2*i])
		low, also := digit(s[2*i+1])
		if !ok || !also {
			return nil, api.ErrText
		}
		r = append(r, high<<4|low)
	}
	return r, api.OK
}

// digit returns the value of a digit of base 16; false if c is none.
func digit(c byte) (byte, bool) {
	switch {
	case '0' <= c && c <= '9':
		return c - '0', true
	case 'a' <= c && c <= 'f':
		return c - 'a' + 10, true
	case 'A' <= c && c <= 'F':
		return c - 'A' + 10, true
	}
	return 0, false
}
