// Package uint256: unsigned 256-bit integers (specification: shared/doc/01-uint256.md).
package uint256

import (
	"cmp"
	"math"
	"math/bits"

	"pontage/api"
	"pontage/limbs"
)

const (
	limbCount = len(api.Uint256{})
	limbBits  = 64
)

var largest = api.Uint256{math.MaxUint64, math.MaxUint64, math.MaxUint64, math.MaxUint64}

// FromUint64 converts n.
func FromUint64(n uint64) api.Uint256 { return api.Uint256{n} }

// Cmp returns -1 if a < b, 1 if a > b, and 0 if they are equal.
func Cmp(a, b api.Uint256) int {
	for i := limbCount - 1; i >= 0; i-- {
		if order := cmp.Compare(a[i], b[i]); order != 0 {
			return order
		}
	}
	return 0
}

// BitLen returns the number of binary digits of a without leading zeros.
func BitLen(a api.Uint256) int {
	for i := limbCount - 1; i >= 0; i-- {
		if a[i] != 0 {
			return i*limbBits + bits.Len64(a[i])
		}
	}
	return 0
}

// Uint64 returns a and true if a is at most 2^64 - 1, and 0 and false otherwise.
func Uint64(a api.Uint256) (uint64, bool) {
	if BitLen(a) > limbBits {
		return 0, false
	}
	return a[0], true
}

// Min returns the smallest of its arguments.
func Min(a api.Uint256, l ...api.Uint256) api.Uint256 {
	smallest := a
	for _, candidate := range l {
		if Cmp(candidate, smallest) < 0 {
			smallest = candidate
		}
	}
	return smallest
}

// Add returns a + b, or ErrOverflow if the sum is greater than 2^256 - 1.
func Add(a, b api.Uint256) (api.Uint256, api.Errno) {
	var sum api.Uint256
	var carry uint64
	for i := range sum {
		sum[i], carry = bits.Add64(a[i], b[i], carry)
	}
	if carry != 0 {
		return api.Uint256{}, api.ErrOverflow
	}
	return sum, api.OK
}

// Sub returns a - b, or ErrOverflow if the difference is negative.
func Sub(a, b api.Uint256) (api.Uint256, api.Errno) {
	var difference api.Uint256
	var borrow uint64
	for i := range difference {
		difference[i], borrow = bits.Sub64(a[i], b[i], borrow)
	}
	if borrow != 0 {
		return api.Uint256{}, api.ErrOverflow
	}
	return difference, api.OK
}

// Mul returns a * b, or ErrOverflow if the product is greater than 2^256 - 1.
func Mul(a, b api.Uint256) (api.Uint256, api.Errno) {
	low, high := limbs.Product(a, b)
	if high != (api.Uint256{}) {
		return api.Uint256{}, api.ErrOverflow
	}
	return low, api.OK
}

// SaturatingAdd returns a + b, or 2^256 - 1 where Add returns ErrOverflow.
func SaturatingAdd(a, b api.Uint256) api.Uint256 {
	sum, code := Add(a, b)
	if code != api.OK {
		return largest
	}
	return sum
}

// SaturatingSub returns a - b, or 0 where Sub returns ErrOverflow.
func SaturatingSub(a, b api.Uint256) api.Uint256 {
	difference, code := Sub(a, b)
	if code != api.OK {
		return api.Uint256{}
	}
	return difference
}

// SaturatingMul returns a * b, or 2^256 - 1 where Mul returns ErrOverflow.
func SaturatingMul(a, b api.Uint256) api.Uint256 {
	product, code := Mul(a, b)
	if code != api.OK {
		return largest
	}
	return product
}
