package limbs

import (
	"math"
	"testing"

	"pontage/api"
)

const max64 = math.MaxUint64

func TestMultiplyAdd(t *testing.T) {
	for _, c := range []struct{ x, y, m, n, high, low uint64 }{
		{0, 0, 0, 0, 0, 0},
		{7, 6, 3, 2, 0, 47},
		{0, max64, max64, 0, 0, max64},
		{0, max64, max64, max64, 1, max64 - 1},
		{1 << 32, 1 << 32, 0, 0, 1, 0},
		{1, max64, 1, 0, 1, 0},
		{1, max64, 0, 1, 1, 0},
		{max64, max64, 0, 0, max64 - 1, 1},
		{max64, max64, max64, 0, max64, 0},
		{max64, max64, 0, max64, max64, 0},
		{max64, max64, max64, max64, max64, max64},
	} {
		if high, low := MultiplyAdd(c.x, c.y, c.m, c.n); high != c.high || low != c.low {
			t.Errorf("MultiplyAdd(%d, %d, %d, %d) = %d, %d; want %d, %d", c.x, c.y, c.m, c.n, high, low, c.high, c.low)
		}
	}
}

func TestProduct(t *testing.T) {
	maximum := api.Uint256{max64, max64, max64, max64}
	for _, c := range []struct{ a, b, low, high api.Uint256 }{
		{api.Uint256{}, maximum, api.Uint256{}, api.Uint256{}},
		{api.Uint256{7}, api.Uint256{6}, api.Uint256{42}, api.Uint256{}},
		{api.Uint256{1, 2, 3, 4}, api.Uint256{0, 0, 0, 1}, api.Uint256{0, 0, 0, 1}, api.Uint256{2, 3, 4}},
		{maximum, api.Uint256{1}, maximum, api.Uint256{}},
		{maximum, maximum, api.Uint256{1}, api.Uint256{max64 - 1, max64, max64, max64}},
	} {
		if low, high := Product(c.a, c.b); low != c.low || high != c.high {
			t.Errorf("Product(%v, %v) = %v, %v; want %v, %v", c.a, c.b, low, high, c.low, c.high)
		}
	}
}
