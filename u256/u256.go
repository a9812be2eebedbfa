// Package u256 is layer 1, whole numbers below 2^256: see shared/doc/01-u256.md.
package u256

import (
	"math/bits"

	"florin/api"
)

// size is how many digits of two a number has room for.
const size = 256

const hexDigits = "0123456789abcdef"

// U is a number, the lowest part first.
type U [4]uint64

// Of is a small number.
func Of(n uint64) U { return U{n} }

// Add is two added.
func Add(a, b U) (U, bool) {
	var sum U
	var carry uint64
	for i := range sum {
		sum[i], carry = bits.Add64(a[i], b[i], carry)
	}
	return sum, carry != 0
}

// Sub is one less another one.
func Sub(a, b U) (U, bool) {
	var less U
	var borrow uint64
	for i := range less {
		less[i], borrow = bits.Sub64(a[i], b[i], borrow)
	}
	return less, borrow != 0
}

// Mul is one times a small one.
func Mul(a U, k uint64) (U, bool) {
	var product U
	var carry uint64
	for i := range product {
		high, low := bits.Mul64(a[i], k)
		sum, over := bits.Add64(low, carry, 0)
		// The upper half of a product is at most 2^64 - 2: one more always fits.
		product[i], carry = sum, high+over
	}
	return product, carry != 0
}

// Div is how often one is in another one, and what is left.
func Div(a, b U) (U, U, bool) {
	if b == (U{}) {
		return U{}, U{}, false
	}
	var times, left U
	for i := Len(a) - 1; i >= 0; i-- {
		// What is left is below b, but twice as much may be 2^256 or more: then b is in it, too.
		twice, over := Add(left, left)
		twice[0] |= a[i/64] >> (i % 64) & 1
		less, under := Sub(twice, b)
		if over || !under {
			left = less
			times[i/64] |= 1 << (i % 64)
		} else {
			left = twice
		}
	}
	return times, left, true
}

// Shl is a number moved up.
func Shl(a U, n int) (U, bool) {
	n = max(n, 0)
	if n >= size {
		return U{}, a != U{}
	}
	var up U
	words, digits := n/64, n%64
	for i := words; i < len(up); i++ {
		up[i] = a[i-words] << digits
		if i > words {
			up[i] |= a[i-words-1] >> (64 - digits)
		}
	}
	return up, Len(a)+n > size
}

// Shr is a number moved down.
func Shr(a U, n int) U {
	n = max(n, 0)
	if n >= size {
		return U{}
	}
	var down U
	words, digits := n/64, n%64
	for i := words; i < len(a); i++ {
		down[i-words] |= a[i] >> digits
		if i > words {
			down[i-words-1] |= a[i] << (64 - digits)
		}
	}
	return down
}

// Cmp compares two.
func Cmp(a, b U) int {
	for i := len(a) - 1; i >= 0; i-- {
		if a[i] < b[i] {
			return -1
		}
		if a[i] > b[i] {
			return 1
		}
	}
	return 0
}

// Len is how many digits of two it has.
func Len(a U) int {
	for i := len(a) - 1; i >= 0; i-- {
		if a[i] != 0 {
			return 64*i + bits.Len64(a[i])
		}
	}
	return 0
}

// Bytes is a number as bytes.
func Bytes(a U) [32]byte {
	var b [32]byte
	for i := range b {
		b[len(b)-1-i] = byte(a[i/8] >> (i % 8 * 8))
	}
	return b
}

// FromBytes is bytes as a number.
func FromBytes(b []byte) (U, api.Errno) {
	var a U
	if len(b) > 32 {
		return a, api.ErrBig
	}
	for i := range b {
		a[i/8] |= uint64(b[len(b)-1-i]) << (i % 8 * 8)
	}
	return a, api.OK
}

// Hex is a number as a text.
func Hex(a U) string {
	n := max((Len(a)+3)/4, 1)
	text := make([]byte, n)
	for i := range text {
		text[n-1-i] = hexDigits[a[i/16]>>(i%16*4)&15]
	}
	return string(text)
}

// FromHex is a text as a number.
func FromHex(s string) (U, api.Errno) {
	if s == "" {
		return U{}, api.ErrForm
	}
	var a U
	big := false
	for _, r := range s {
		d, ok := digit(r)
		if !ok {
			return U{}, api.ErrForm
		}
		up, lost := Shl(a, 4)
		up[0] |= d
		a = up
		// It is not told at once: a text with a wrong rune further on is of no form, however long.
		big = big || lost
	}
	if big {
		return U{}, api.ErrBig
	}
	return a, api.OK
}

func digit(r rune) (uint64, bool) {
	switch {
	case r >= '0' && r <= '9':
		return uint64(r - '0'), true
	case r >= 'a' && r <= 'f':
		return uint64(r-'a') + 10, true
	case r >= 'A' && r <= 'F':
		return uint64(r-'A') + 10, true
	}
	return 0, false
}

// Not is the greatest number less one.
func Not(a U) U {
	for i := range a {
		a[i] = ^a[i]
	}
	return a
}
