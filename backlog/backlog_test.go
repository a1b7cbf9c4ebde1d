package backlog

import (
	"math"
	"math/big"
	"math/rand"
	"sync"
	"testing"
)

const max64 = math.MaxUint64

// root64 is the least number whose square has more than 64 bits.
const root64 = 1 << 32

func toBig(n uint64) *big.Int { return new(big.Int).SetUint64(n) }

// clamped returns n, or the end of the range of uint64 that n is beyond.
func clamped(n *big.Int) uint64 {
	switch {
	case n.Sign() < 0:
		return 0
	case !n.IsUint64():
		return max64
	}
	return n.Uint64()
}

func wantedSum(b, gas uint64) uint64 {
	return clamped(new(big.Int).Add(toBig(b), toBig(gas)))
}

func wantedDifference(b, x, y uint64) uint64 {
	product := new(big.Int).Mul(toBig(x), toBig(y))
	return clamped(product.Sub(toBig(b), product))
}

func expectSum(t *testing.T, b, gas, want uint64) {
	t.Helper()
	if got := Add(b, gas); got != want {
		t.Errorf("Add(%d, %d) = %d, want %d", b, gas, got, want)
	}
}

// expectDifference checks both calls that return b - x*y.
func expectDifference(t *testing.T, b, x, y, want uint64) {
	t.Helper()
	if got := Drain(b, x, y); got != want {
		t.Errorf("Drain(%d, %d, %d) = %d, want %d", b, x, y, got, want)
	}
	if got := Excess(b, x, y); got != want {
		t.Errorf("Excess(%d, %d, %d) = %d, want %d", b, x, y, got, want)
	}
}

// boundaries returns the powers of two and the ends of the range with their
// neighbours, and some ordinary numbers.
func boundaries() []uint64 {
	values := []uint64{0, 3, 7, 10, 100, 7_000_000, 70_000_000, max64 / 3, max64 / 5, max64 - 1, max64}
	for shift := 0; shift < 64; shift++ {
		power := uint64(1) << shift
		values = append(values, power-1, power, power+1)
	}
	return values
}

// randomNumber returns numbers of every bit length.
func randomNumber(random *rand.Rand) uint64 { return random.Uint64() >> random.Intn(64) }

func TestChapterExamples(t *testing.T) {
	if got := Drain(100, 7, 20); got != 0 {
		t.Errorf("Drain(100, 7, 20) = %d, want 0", got)
	}
	if got := Excess(100, 7, 10); got != 30 {
		t.Errorf("Excess(100, 7, 10) = %d, want 30", got)
	}
}

// P13.1

func TestAddOrdinary(t *testing.T) {
	expectSum(t, 0, 0, 0)
	expectSum(t, 0, 9, 9)
	expectSum(t, 9, 0, 9)
	expectSum(t, 40, 2, 42)
	expectSum(t, 32_000_000, 7_000_000, 39_000_000)
}

func TestAddStopsAtTheGreatestNumber(t *testing.T) {
	expectSum(t, max64-6, 5, max64-1)
	expectSum(t, max64-5, 5, max64)
	expectSum(t, max64-4, 5, max64)
	expectSum(t, 5, max64-4, max64)
	expectSum(t, max64, 0, max64)
	expectSum(t, 0, max64, max64)
	expectSum(t, max64, 1, max64)
	expectSum(t, 1, max64, max64)
	expectSum(t, 1<<63, 1<<63, max64)
	expectSum(t, 1<<63, 1<<63-1, max64)
	expectSum(t, max64, max64, max64)
}

func TestDifferenceOrdinary(t *testing.T) {
	expectDifference(t, 100, 7, 10, 30)
	expectDifference(t, 100, 10, 7, 30)
	expectDifference(t, 32_000_000, 7_000_000, 3, 11_000_000)
	expectDifference(t, 100, 7, 0, 100)
	expectDifference(t, 100, 0, 7, 100)
	expectDifference(t, 9, 0, max64, 9)
	expectDifference(t, 9, max64, 0, 9)
	expectDifference(t, max64, 0, 0, max64)
}

func TestDifferenceStopsAtZero(t *testing.T) {
	expectDifference(t, 141, 7, 20, 1)
	expectDifference(t, 140, 7, 20, 0)
	expectDifference(t, 139, 7, 20, 0)
	expectDifference(t, 0, 7, 20, 0)
	expectDifference(t, 0, 0, 0, 0)
	expectDifference(t, max64, 1, max64-1, 1)
	expectDifference(t, max64, max64, 1, 0)
	expectDifference(t, max64-1, max64, 1, 0)
}

func TestDifferenceWithUnboundedProduct(t *testing.T) {
	expectDifference(t, max64, root64, root64/2, max64-1<<63)
	// The product is exactly 2^64, of which the low 64 bits are 0.
	expectDifference(t, max64, root64, root64, 0)
	expectDifference(t, 5, root64, root64, 0)
	expectDifference(t, max64, 2, 1<<63, 0)
	// The product is 2^64 + 2^32, of which the low 64 bits are less than b.
	expectDifference(t, max64, root64, root64+1, 0)
	// The product is 2^64 - 1, the greatest that can be subtracted.
	expectDifference(t, max64, root64-1, root64+1, 0)
	expectDifference(t, max64-1, root64-1, root64+1, 0)
	// The product is (2^64 - 1)^2, of which the low 64 bits are 1.
	expectDifference(t, max64, max64, max64, 0)
	expectDifference(t, 1, max64, max64, 0)
}

func TestBoundariesAgainstUnboundedIntegers(t *testing.T) {
	values := boundaries()
	for _, b := range values {
		for _, x := range values {
			expectSum(t, b, x, wantedSum(b, x))
		}
	}
	backlogs := []uint64{0, 1, 99, 7_000_000, root64 - 1, root64, root64 + 1, 1<<63 - 1, 1 << 63, max64 - 1, max64}
	for _, b := range backlogs {
		for _, x := range values {
			for _, y := range values {
				expectDifference(t, b, x, y, wantedDifference(b, x, y))
			}
		}
	}
}

// TestDifferenceAroundTheProduct takes backlogs just below, at and just above the
// product.
func TestDifferenceAroundTheProduct(t *testing.T) {
	values := boundaries()
	for _, x := range values {
		for _, y := range values {
			product := x * y
			for _, b := range []uint64{product - 1, product, product + 1} {
				expectDifference(t, b, x, y, wantedDifference(b, x, y))
			}
		}
	}
}

func TestRandomAgainstUnboundedIntegers(t *testing.T) {
	random := rand.New(rand.NewSource(13))
	for range 100_000 {
		b, x, y := randomNumber(random), randomNumber(random), randomNumber(random)
		expectSum(t, b, x, wantedSum(b, x))
		expectDifference(t, b, x, y, wantedDifference(b, x, y))
	}
}

// General rules

// R5
func TestConcurrentCalls(t *testing.T) {
	var group sync.WaitGroup
	for worker := range uint64(8) {
		group.Go(func() {
			for n := range uint64(1000) {
				b := max64 - worker*n
				expectSum(t, b, n, wantedSum(b, n))
				expectDifference(t, b, n, worker, wantedDifference(b, n, worker))
			}
		})
	}
	group.Wait()
}
