package basefee

import (
	"math"
	"math/big"
	"math/rand"
	"sync"
	"testing"

	"pontage/api"
	"pontage/params"
)

const max64 = math.MaxUint64

// The tolerated backlog of the first parameters, and the excess that adds
// BasisPoints to their exponent.
const (
	tolerated = 70_000_000
	scale     = 714_000_000
)

func number(limbs ...uint64) api.Uint256 {
	var n api.Uint256
	copy(n[:], limbs)
	return n
}

func fromUint(n uint64) *big.Int { return new(big.Int).SetUint64(n) }

func toBig(n api.Uint256) *big.Int {
	result := new(big.Int)
	for i := len(n) - 1; i >= 0; i-- {
		result.Lsh(result, 64)
		result.Or(result, fromUint(n[i]))
	}
	return result
}

// curve returns the first parameters with those that determine the base fee.
func curve(speed, tolerance, inertia, minFee uint64) api.Params {
	p := params.Genesis()
	p.SpeedLimit, p.Tolerance, p.BacklogInertia = speed, tolerance, inertia
	p.MinBaseFee = number(minFee)
	return p
}

// wantedExcess evaluates the excess of P13.1 with unbounded integers.
func wantedExcess(backlog uint64, p api.Params) *big.Int {
	excess := new(big.Int).Mul(fromUint(p.SpeedLimit), fromUint(p.Tolerance))
	excess.Sub(fromUint(backlog), excess)
	if excess.Sign() < 0 {
		return new(big.Int)
	}
	return excess
}

// wantedExponent evaluates P14.1 with unbounded integers.
func wantedExponent(backlog uint64, p api.Params) uint64 {
	exponent := wantedExcess(backlog, p)
	exponent.Mul(exponent, big.NewInt(api.BasisPoints))
	exponent.Div(exponent, new(big.Int).Mul(fromUint(p.BacklogInertia), fromUint(p.SpeedLimit)))
	if exponent.Cmp(big.NewInt(api.MaxExponent)) > 0 {
		return api.MaxExponent
	}
	return exponent.Uint64()
}

// wantedFee evaluates P14.1 with the polynomial of P5.2 and unbounded integers.
func wantedFee(backlog uint64, p api.Params) *big.Int {
	points := big.NewInt(api.BasisPoints)
	exponent := fromUint(wantedExponent(backlog, p))
	factor := big.NewInt(api.BasisPoints)
	for i := int64(api.BaseFeeTerms); i >= 1; i-- {
		factor.Mul(factor, exponent)
		factor.Div(factor, new(big.Int).Mul(big.NewInt(i), points))
		factor.Add(factor, points)
	}
	fee := factor.Mul(factor, toBig(p.MinBaseFee))
	return fee.Div(fee, points)
}

func expectExponent(t *testing.T, backlog uint64, p api.Params, want uint64) {
	t.Helper()
	if got, code := Exponent(backlog, p); got != want || code != api.OK {
		t.Errorf("Exponent(%d, %+v) = %d, %d, want %d", backlog, p, got, code, want)
	}
}

func expectFee(t *testing.T, backlog uint64, p api.Params, want api.Uint256) {
	t.Helper()
	if got, code := Fee(backlog, p); got != want || code != api.OK {
		t.Errorf("Fee(%d, %+v) = %v, %d, want %v", backlog, p, got, code, want)
	}
}

// expectModel compares both calls with unbounded integers.
func expectModel(t *testing.T, backlog uint64, p api.Params) {
	t.Helper()
	expectExponent(t, backlog, p, wantedExponent(backlog, p))
	want := wantedFee(backlog, p)
	if got, code := Fee(backlog, p); toBig(got).Cmp(want) != 0 || code != api.OK {
		t.Errorf("Fee(%d, %+v) = %v, %d, want %v", backlog, p, got, code, want)
	}
}

func expectInvalid(t *testing.T, backlog uint64, p api.Params) {
	t.Helper()
	if got, code := Exponent(backlog, p); got != 0 || code != api.ErrInvalidParams {
		t.Errorf("Exponent(%d, %+v) = %d, %d, want 0, ErrInvalidParams", backlog, p, got, code)
	}
	if got, code := Fee(backlog, p); got != number() || code != api.ErrInvalidParams {
		t.Errorf("Fee(%d, %+v) = %v, %d, want 0, ErrInvalidParams", backlog, p, got, code)
	}
}

// boundaries returns the powers of two and the ends of the range with their
// neighbours, and some ordinary backlogs.
func boundaries() []uint64 {
	values := []uint64{0, 32_000_000, tolerated, tolerated + scale, max64 / api.BasisPoints, max64 - 1, max64}
	for shift := 0; shift < 64; shift++ {
		power := uint64(1) << shift
		values = append(values, power-1, power, power+1)
	}
	return values
}

// curves returns parameters at the ends of their ranges and between them.
func curves() []api.Params {
	var result []api.Params
	for _, speed := range []uint64{1, 2, 7_000_000, 1<<40 - 1, 1 << 40} {
		for _, tolerance := range []uint64{0, 1, 10, 1 << 20} {
			for _, inertia := range []uint64{1, 3, 102, 1<<20 - 1, 1 << 20} {
				for _, minFee := range []uint64{1, 9_999, 100_000_000, max64} {
					result = append(result, curve(speed, tolerance, inertia, minFee))
				}
			}
		}
	}
	return result
}

// randomUpTo returns numbers of every bit length from lowest to highest.
func randomUpTo(random *rand.Rand, lowest, highest uint64) uint64 {
	return min(max(random.Uint64()>>random.Intn(64), lowest), highest)
}

func randomCurve(random *rand.Rand) api.Params {
	return curve(
		randomUpTo(random, 1, 1<<40),
		randomUpTo(random, 0, 1<<20),
		randomUpTo(random, 1, 1<<20),
		randomUpTo(random, 1, max64),
	)
}

func TestChapterExamples(t *testing.T) {
	expectFee(t, 0, params.Genesis(), number(100_000_000))
	expectExponent(t, 70_000_000+714_000_000, params.Genesis(), 10_000)
}

// P14.1

func TestExponentOrdinary(t *testing.T) {
	p := params.Genesis()
	expectExponent(t, 0, p, 0)
	expectExponent(t, tolerated-1, p, 0)
	expectExponent(t, tolerated, p, 0)
	expectExponent(t, tolerated+1, p, 0)
	expectExponent(t, tolerated+3*scale, p, 30_000)
	expectExponent(t, 24, curve(2, 2, 5, 1), 20_000)
	expectExponent(t, 25, curve(2, 2, 5, 1), 21_000)
	expectExponent(t, 25, curve(2, 2, 3, 1), 35_000)
	expectExponent(t, 25, curve(3, 2, 2, 1), 31_666)
}

func TestExponentIsTheFloor(t *testing.T) {
	p := params.Genesis()
	const point = scale / api.BasisPoints
	expectExponent(t, tolerated+point-1, p, 0)
	expectExponent(t, tolerated+point, p, 1)
	expectExponent(t, tolerated+2*point-1, p, 1)
	expectExponent(t, tolerated+2*point, p, 2)
	expectExponent(t, tolerated+scale-1, p, api.BasisPoints-1)
}

func TestExponentStopsAtMaxExponent(t *testing.T) {
	p := params.Genesis()
	const greatest = tolerated + scale*api.MaxExponent/api.BasisPoints
	expectExponent(t, greatest-1, p, api.MaxExponent-1)
	expectExponent(t, greatest, p, api.MaxExponent)
	expectExponent(t, greatest+scale, p, api.MaxExponent)
	expectExponent(t, max64, p, api.MaxExponent)
}

func TestExponentWithUnboundedProduct(t *testing.T) {
	// From this excess on, the product with BasisPoints has more than 64 bits.
	const wide = max64/api.BasisPoints + 1
	slow := curve(1<<30, 0, 1<<16, 1)
	expectModel(t, wide-1, slow)
	expectModel(t, wide, slow)
	expectModel(t, wide+1, slow)
	expectExponent(t, 1<<46, slow, 10_000)
	expectExponent(t, 1<<46-1, slow, 9_999)
	expectExponent(t, 1<<60, curve(1<<40, 0, 1<<20, 1), 10_000)
	expectExponent(t, max64, curve(1<<40, 0, 1<<20, 1), 159_999)
	// The high 64 bits of the product are 9999, and the quotients are beyond, at and
	// below the greatest number of 64 bits.
	expectExponent(t, max64, curve(9_999, 0, 1, 1), api.MaxExponent)
	expectExponent(t, max64, curve(10_000, 0, 1, 1), api.MaxExponent)
	expectExponent(t, max64, curve(10_001, 0, 1, 1), api.MaxExponent)
	// The product is 625 * 2^64, of which the low 64 bits are 0.
	expectExponent(t, 1<<60, curve(1, 0, 1, 1), api.MaxExponent)
	expectExponent(t, 1<<60, curve(625, 0, 1, 1), api.MaxExponent)
	expectExponent(t, max64, curve(1, 0, 1, 1), api.MaxExponent)
}

func TestFeeOrdinary(t *testing.T) {
	p := params.Genesis()
	expectFee(t, tolerated, p, number(100_000_000))
	expectFee(t, tolerated+scale/api.BasisPoints, p, number(100_010_000))
	expectFee(t, tolerated+scale, p, number(271_820_000))
	expectFee(t, tolerated+scale, curve(7_000_000, 10, 102, 1), number(2))
}

func TestFeeGreatest(t *testing.T) {
	p := curve(7_000_000, 10, 102, max64)
	expectModel(t, tolerated+20*scale-1, p)
	expectModel(t, tolerated+20*scale, p)
	expectModel(t, max64, p)
	if got, _ := Fee(max64, p); got[1] == 0 {
		t.Errorf("Fee(max, %+v) = %v, which has at most 64 bits", p, got)
	}
}

func TestBoundariesAgainstUnboundedIntegers(t *testing.T) {
	for _, p := range curves() {
		for _, backlog := range boundaries() {
			expectModel(t, backlog, p)
		}
	}
}

// TestExponentAroundEachStep takes the least excess of an exponent and the one
// before it.
func TestExponentAroundEachStep(t *testing.T) {
	random := rand.New(rand.NewSource(14))
	for range 20_000 {
		p := randomCurve(random)
		p.SpeedLimit, p.BacklogInertia = min(p.SpeedLimit, 1<<32), min(p.BacklogInertia, 1<<16)
		exponent := uint64(random.Intn(api.MaxExponent)) + 1
		least := fromUint(exponent)
		least.Mul(least, fromUint(p.SpeedLimit*p.BacklogInertia))
		least.Add(least, big.NewInt(api.BasisPoints-1))
		least.Div(least, big.NewInt(api.BasisPoints))
		backlog := least.Uint64() + p.SpeedLimit*p.Tolerance
		expectModel(t, backlog-1, p)
		expectModel(t, backlog, p)
		expectModel(t, backlog+1, p)
	}
}

func TestRandomAgainstUnboundedIntegers(t *testing.T) {
	random := rand.New(rand.NewSource(41))
	for range 50_000 {
		expectModel(t, randomUpTo(random, 0, max64), randomCurve(random))
	}
}

func TestInvalidParams(t *testing.T) {
	for _, backlog := range []uint64{0, tolerated + scale, max64} {
		expectInvalid(t, backlog, api.Params{})
		expectInvalid(t, backlog, curve(0, 10, 102, 1))
		expectInvalid(t, backlog, curve(1<<40+1, 10, 102, 1))
		expectInvalid(t, backlog, curve(7_000_000, 1<<20+1, 102, 1))
		expectInvalid(t, backlog, curve(7_000_000, 10, 0, 1))
		expectInvalid(t, backlog, curve(7_000_000, 10, 1<<20+1, 1))
		expectInvalid(t, backlog, curve(7_000_000, 10, 102, 0))
		expectInvalid(t, backlog, curve(1<<32, 10, 1<<32, 1))
	}
}

// TestInvalidOtherParams takes parameters that do not determine the base fee.
func TestInvalidOtherParams(t *testing.T) {
	changes := []func(p *api.Params){
		func(p *api.Params) { p.MinBaseFee = number(0, 1) },
		func(p *api.Params) { p.BlockGasLimit = 0 },
		func(p *api.Params) { p.InfraFeeCap = number(0, 1) },
		func(p *api.Params) { p.BurnBips = api.BasisPoints + 1 },
		func(p *api.Params) { p.RewardPerUnit = number(0, 0, 0, 1) },
		func(p *api.Params) { p.EquilibrationUnits = 0 },
		func(p *api.Params) { p.PriceInertia = 0 },
		func(p *api.Params) { p.MinUnits = p.MaxUnits + 1 },
		func(p *api.Params) { p.MaxUnits = 1<<24 + 1 },
	}
	for _, change := range changes {
		p := params.Genesis()
		change(&p)
		expectInvalid(t, 0, p)
		expectInvalid(t, tolerated+scale, p)
	}
}

// P14.2

// expectNoLower checks the fee of a backlog against the one of a smaller backlog,
// and returns it.
func expectNoLower(t *testing.T, backlog uint64, p api.Params, last *big.Int) *big.Int {
	t.Helper()
	got, code := Fee(backlog, p)
	fee := toBig(got)
	if code != api.OK || fee.Cmp(last) < 0 {
		t.Fatalf("Fee(%d, %+v) = %v, %d, less than %v", backlog, p, got, code, last)
	}
	return fee
}

func TestFeeDoesNotDecrease(t *testing.T) {
	for _, minFee := range []uint64{1, 3, 100_000_000, max64} {
		p := curve(7_000_000, 10, 102, minFee)
		last := fromUint(minFee)
		for backlog := uint64(0); backlog < tolerated+21*scale; backlog += scale / 1009 {
			last = expectNoLower(t, backlog, p, last)
		}
	}
}

// TestFeeDoesNotDecreaseOverAllBitLengths begins with MinBaseFee, so that no fee is
// less than it either.
func TestFeeDoesNotDecreaseOverAllBitLengths(t *testing.T) {
	for _, p := range curves() {
		last := toBig(p.MinBaseFee)
		for shift := 63; shift >= 0; shift-- {
			last = expectNoLower(t, max64>>shift, p, last)
		}
	}
}

func TestFeeIsMinBaseFeeWithoutExcess(t *testing.T) {
	for _, p := range curves() {
		tolerable := p.SpeedLimit * p.Tolerance
		for _, backlog := range []uint64{0, tolerable / 2, tolerable} {
			expectFee(t, backlog, p, p.MinBaseFee)
		}
	}
}

// General rules

// R5
func TestConcurrentCalls(t *testing.T) {
	var group sync.WaitGroup
	for worker := range uint64(8) {
		group.Go(func() {
			for n := range uint64(200) {
				expectModel(t, n*scale/9, curve(7_000_000+n, worker, 102, 1+worker*n))
			}
		})
	}
	group.Wait()
}
