// Package crc is layer 1: see shared/doc/01-crc.md.
package crc

import (
	"bytes"

	"precentor/api"
)

// width is how many bytes a sum has, and how many may be spoilt at one place: a burst of that length never keeps its sum.
const width = 4

// poly is the polynomial, its bits turned about as the lowest bit goes out first.
const poly uint32 = 0xedb88320

// Sum is the sum of bytes.
func Sum(b []byte) uint32 {
	sum := ^uint32(0)
	for _, x := range b {
		sum = shiftByte(sum ^ uint32(x))
	}
	return ^sum
}

// shiftByte moves a byte's bits out of a sum.
func shiftByte(sum uint32) uint32 {
	left := 8
next:
	out := sum & 1
	sum >>= 1
	if out == 1 {
		sum ^= poly
	}
	left--
	if left > 0 {
		goto next
	}
	return sum
}

// lowFirst is a sum's bytes in the order in which they are sealed.
func lowFirst(sum uint32) [width]byte {
	return [width]byte{byte(sum), byte(sum >> 8), byte(sum >> 16), byte(sum >> 24)}
}

// Seal is bytes with their sum.
func Seal(b []byte) []byte {
	tail := lowFirst(Sum(b))
	// Room of its own: appending to b itself could write behind its end.
	out := make([]byte, 0, len(b)+width)
	out = append(out, b...)
	return append(out, tail[:]...)
}

// Open is what was sealed.
func Open(b []byte) ([]byte, api.Errno) {
	if len(b) < width {
		return nil, api.ErrForm
	}
	end := len(b) - width
	if [width]byte(b[end:]) != lowFirst(Sum(b[:end])) {
		return nil, api.ErrSum
	}
	return bytes.Clone(b[:end]), api.OK
}

// Spoil is bytes, some of them turned.
func Spoil(b []byte, at int, by []byte) []byte {
	out := bytes.Clone(b)
	if at < 0 || at >= len(b) {
		return out
	}
	// The count is bounded ahead of the loop, as at and 3 may go round.
	for i := range min(width, len(by), len(b)-at) {
		out[at+i] ^= by[i]
	}
	return out
}
