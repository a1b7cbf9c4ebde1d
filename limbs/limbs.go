// Package limbs multiplies 64-bit limbs. Layers 1 and 2 share it because both
// need the exact product of two 256-bit integers.
package limbs

import (
	"math/bits"

	"pontage/api"
)

const count = len(api.Uint256{})

// Product returns the low and the high half of the exact 512-bit product a * b.
func Product(a, b api.Uint256) (api.Uint256, api.Uint256) {
	var product [2 * count]uint64
	for i, multiplier := range a {
		var carry uint64
		for j, limb := range b {
			carry, product[i+j] = MultiplyAdd(multiplier, limb, product[i+j], carry)
		}
		product[i+count] = carry
	}
	return api.Uint256(product[:count]), api.Uint256(product[count:])
}

// MultiplyAdd returns the high and the low half of x*y + m + n. The sum fits
// 128 bits because (2^64-1)^2 + 2*(2^64-1) = 2^128 - 1, so neither addition to
// the high half wraps around.
func MultiplyAdd(x, y, m, n uint64) (uint64, uint64) {
	high, low := bits.Mul64(x, y)
	low, carryM := bits.Add64(low, m, 0)
	low, carryN := bits.Add64(low, n, 0)
	return high + carryM + carryN, low
}
