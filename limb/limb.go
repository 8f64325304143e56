// Package limb is layer 1: see shared/doc/01-limb.md.
//
// Secrets go through here: no step is chosen, and no memory is looked up, by what a number is.
// Only a count of bytes or the place of a bit, which are no secrets, may decide anything.
package limb

import (
	"math/bits"

	"escutcheon/api"
)

const (
	limbs     = 6
	limbBits  = 64
	limbBytes = 8
	allBits   = limbs * limbBits
	allBytes  = limbs * limbBytes
)

// Add is a sum, and the bit that is carried: P1.1.
func Add(a, b api.U384) (api.U384, uint64) {
	var sum api.U384
	var carry uint64
	for i := range limbs {
		sum[i], carry = bits.Add64(a[i], b[i], carry)
	}
	return sum, carry
}

// Sub is a difference, and the bit that is borrowed: P1.1.
func Sub(a, b api.U384) (api.U384, uint64) {
	var rest api.U384
	var borrow uint64
	for i := range limbs {
		rest[i], borrow = bits.Sub64(a[i], b[i], borrow)
	}
	return rest, borrow
}

// Mul is a product: P1.2.
func Mul(a, b api.U384) api.U768 {
	var product api.U768
	for i := range limbs {
		var carry uint64
		for j := range limbs {
			product[i+j], carry = mulAdd(a[i], b[j], product[i+j], carry)
		}
		product[i+limbs] = carry
	}
	return product
}

// mulAdd is x * y + s + c, its low limb first. It can't pass two limbs:
// (2^64 - 1)^2 + 2 * (2^64 - 1) is 2^128 - 1, so the high limb takes both carries.
func mulAdd(x, y, s, c uint64) (uint64, uint64) {
	high, low := bits.Mul64(x, y)
	low, carry := bits.Add64(low, s, 0)
	high += carry
	low, carry = bits.Add64(low, c, 0)
	high += carry
	return low, high
}

// Less tells whether a number is below another one: P1.3.
func Less(a, b api.U384) uint64 {
	_, borrow := Sub(a, b)
	return borrow
}

// Same tells whether two numbers are the same: P1.3.
func Same(a, b api.U384) uint64 {
	var odds uint64
	for i := range limbs {
		odds |= a[i] ^ b[i]
	}
	// Of a number and its negative one at least has the highest bit, but for 0.
	return 1 ^ (odds|-odds)>>(limbBits-1)
}

// Pick is one of two numbers: P1.3.
func Pick(bit uint64, a, b api.U384) api.U384 {
	mask := -(bit & 1)
	var picked api.U384
	for i := range limbs {
		picked[i] = a[i] ^ mask&(a[i]^b[i])
	}
	return picked
}

// Bit is one of a number's bits: P1.3.
func Bit(a api.U384, i int) uint64 {
	if i < 0 || i >= allBits {
		return 0
	}
	return a[i/limbBits] >> uint(i%limbBits) & 1
}

// From is the number of 48 bytes: P1.4.
func From(b []byte) (api.U384, error) {
	if len(b) < allBytes {
		return api.U384{}, api.ErrShort
	}
	if len(b) > allBytes {
		return api.U384{}, api.ErrMore
	}
	var a api.U384
	for i := range allBytes {
		limb := (allBytes - 1 - i) / limbBytes
		a[limb] = a[limb]<<8 | uint64(b[i])
	}
	return a, nil
}

// Bytes are a number's 48 bytes: P1.4.
func Bytes(a api.U384) []byte {
	b := make([]byte, allBytes)
	for i := range allBytes {
		place := allBytes - 1 - i
		b[i] = byte(a[place/limbBytes] >> uint(place%limbBytes*8))
	}
	return b
}
