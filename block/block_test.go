package block

import (
	"math"
	"math/big"
	"math/rand"
	"sync"
	"testing"

	"pontage/api"
	"pontage/basefee"
	"pontage/params"
)

const max64 = math.MaxUint64

// The tolerated backlog of the first parameters, and the excess that adds
// BasisPoints to their exponent.
const (
	tolerated = 70_000_000
	scale     = 714_000_000
)

func number(limbs ...uint64) api.Uint256 {
	var n api.Uint256
	copy(n[:], limbs)
	return n
}

func maximum() api.Uint256 { return number(max64, max64, max64, max64) }

func fromUint(n uint64) *big.Int { return new(big.Int).SetUint64(n) }

// limited returns the first parameters with another gas limit, which need not be
// valid.
func limited(gasLimit uint64) api.Params {
	p := params.Genesis()
	p.BlockGasLimit = gasLimit
	return p
}

// invalidParams returns parameters of which one is outside its range.
func invalidParams() []api.Params {
	changes := []func(p *api.Params){
		func(p *api.Params) { *p = api.Params{} },
		func(p *api.Params) { p.SpeedLimit = 0 },
		func(p *api.Params) { p.Tolerance = 1<<20 + 1 },
		func(p *api.Params) { p.BacklogInertia = 0 },
		func(p *api.Params) { p.MinBaseFee = number() },
		func(p *api.Params) { p.BlockGasLimit = 0 },
		func(p *api.Params) { p.BlockGasLimit = 1<<40 + 1 },
		func(p *api.Params) { p.InfraFeeCap = number(0, 1) },
		func(p *api.Params) { p.BurnBips = api.BasisPoints + 1 },
		func(p *api.Params) { p.MinUnits = p.MaxUnits + 1 },
		func(p *api.Params) { p.MaxUnits = 1<<24 + 1 },
	}
	result := make([]api.Params, len(changes))
	for i, change := range changes {
		result[i] = params.Genesis()
		change(&result[i])
	}
	return result
}

func expectGenesis(t *testing.T, p api.Params, want api.Block, wantCode api.Errno) {
	t.Helper()
	if got, code := Genesis(p); got != want || code != wantCode {
		t.Errorf("Genesis(%+v) = %v, %d, want %v, %d", p, got, code, want, wantCode)
	}
}

func expectNext(t *testing.T, b api.Block, seconds, backlog uint64, p api.Params, want api.Block) {
	t.Helper()
	if got, code := Next(b, seconds, backlog, p); got != want || code != api.OK {
		t.Errorf("Next(%v, %d, %d, %+v) = %v, %d, want %v", b, seconds, backlog, p, got, code, want)
	}
}

func expectNoNext(t *testing.T, b api.Block, seconds, backlog uint64, p api.Params, want api.Errno) {
	t.Helper()
	if got, code := Next(b, seconds, backlog, p); got != (api.Block{}) || code != want {
		t.Errorf("Next(%v, %d, %d, %+v) = %v, %d, want no block, %d", b, seconds, backlog, p, got, code, want)
	}
}

// expectGas checks the remaining gas of a block and the use of some.
func expectGas(t *testing.T, b api.Block, gas uint64, p api.Params, remaining uint64, wantCode api.Errno) {
	t.Helper()
	var want api.Block
	if wantCode == api.OK {
		want = b
		want.GasUsed += gas
	}
	if got := GasRemaining(b, p); got != remaining {
		t.Errorf("GasRemaining(%v) with limit %d = %d, want %d", b, p.BlockGasLimit, got, remaining)
	}
	if got, code := UseGas(b, gas, p); got != want || code != wantCode {
		t.Errorf("UseGas(%v, %d) with limit %d = %v, %d, want %v, %d", b, gas, p.BlockGasLimit, got, code, want, wantCode)
	}
}

// fits reports whether a mathematical integer is a number of 64 bits.
func fits(n *big.Int) bool { return n.Sign() >= 0 && n.BitLen() <= 64 }

// expectNextModel compares Next with unbounded integers, for valid parameters.
func expectNextModel(t *testing.T, b api.Block, seconds, backlog uint64, p api.Params) {
	t.Helper()
	newNumber := new(big.Int).Add(fromUint(b.Number), big.NewInt(1))
	newTime := new(big.Int).Add(fromUint(b.Time), fromUint(seconds))
	if seconds == 0 || seconds > 1<<20 {
		expectNoNext(t, b, seconds, backlog, p, api.ErrInvalidArgument)
		return
	}
	if !fits(newNumber) || !fits(newTime) {
		expectNoNext(t, b, seconds, backlog, p, api.ErrOverflow)
		return
	}
	fee, code := basefee.Fee(backlog, p)
	if code != api.OK {
		t.Fatalf("Fee(%d, %+v) has error %d", backlog, p, code)
	}
	expectNext(t, b, seconds, backlog, p, api.Block{Number: newNumber.Uint64(), Time: newTime.Uint64(), BaseFee: fee})
}

// expectGasModel compares the calls of P15.2 with unbounded integers.
func expectGasModel(t *testing.T, used, gas, limit uint64) {
	t.Helper()
	difference := new(big.Int).Sub(fromUint(limit), fromUint(used))
	if difference.Sign() < 0 {
		difference.SetUint64(0)
	}
	code := api.OK
	if fromUint(gas).Cmp(difference) > 0 {
		code = api.ErrGasLimit
	}
	b := api.Block{Number: 4, Time: 5, GasUsed: used, BaseFee: number(6, 7, 8, 9)}
	expectGas(t, b, gas, limited(limit), difference.Uint64(), code)
}

// boundaries returns the powers of two and the ends of the range with their
// neighbours, and some ordinary numbers.
func boundaries() []uint64 {
	values := []uint64{0, 3, 21_000, 32_000_000, max64 - 1, max64}
	for shift := 4; shift < 64; shift += 4 {
		power := uint64(1) << shift
		values = append(values, power-1, power, power+1)
	}
	return values
}

// randomNumber returns numbers of every bit length, of which some are near the end
// of the range.
func randomNumber(random *rand.Rand) uint64 {
	n := random.Uint64() >> random.Intn(64)
	if random.Intn(2) == 0 {
		return max64 - n
	}
	return n
}

func TestChapterExamples(t *testing.T) {
	first := api.Block{Number: 1, BaseFee: number(100_000_000)}
	expectGenesis(t, params.Genesis(), first, api.OK)
	expectGas(t, first, 32_000_000+1, params.Genesis(), 32_000_000, api.ErrGasLimit)
}

// P15.1

func TestGenesisHasTheFeeOfAnEmptyBacklog(t *testing.T) {
	for _, minFee := range []uint64{1, 7, 100_000_000, max64} {
		p := params.Genesis()
		p.MinBaseFee = number(minFee)
		expectGenesis(t, p, api.Block{Number: 1, BaseFee: number(minFee)}, api.OK)
		p.Tolerance = 0
		expectGenesis(t, p, api.Block{Number: 1, BaseFee: number(minFee)}, api.OK)
	}
}

func TestGenesisInvalidParams(t *testing.T) {
	for _, p := range invalidParams() {
		expectGenesis(t, p, api.Block{}, api.ErrInvalidParams)
	}
}

func TestNextOrdinary(t *testing.T) {
	p := params.Genesis()
	b := api.Block{Number: 41, Time: 1000, GasUsed: 31_000_000, BaseFee: number(5, 6, 7, 8)}
	expectNext(t, b, 12, 0, p, api.Block{Number: 42, Time: 1012, BaseFee: number(100_000_000)})
	expectNext(t, b, 1, tolerated, p, api.Block{Number: 42, Time: 1001, BaseFee: number(100_000_000)})
	expectNext(t, b, 2, tolerated+scale, p, api.Block{Number: 42, Time: 1002, BaseFee: number(271_820_000)})
	expectNext(t, api.Block{}, 3, 0, p, api.Block{Number: 1, Time: 3, BaseFee: number(100_000_000)})
}

func TestNextDependsOnlyOnNumberAndTime(t *testing.T) {
	p := params.Genesis()
	want := api.Block{Number: 8, Time: 10, BaseFee: number(271_820_000)}
	for _, b := range []api.Block{
		{Number: 7, Time: 9},
		{Number: 7, Time: 9, GasUsed: 1},
		{Number: 7, Time: 9, GasUsed: max64, BaseFee: maximum()},
	} {
		expectNext(t, b, 1, tolerated+scale, p, want)
	}
}

func TestNextHasTheFeeOfTheBacklog(t *testing.T) {
	p := params.Genesis()
	for _, backlog := range boundaries() {
		expectNextModel(t, api.Block{Number: 2, Time: 3}, 1, backlog, p)
	}
	p.MinBaseFee = number(max64)
	greatest, code := Next(api.Block{}, 1, max64, p)
	if code != api.OK || greatest.BaseFee[1] == 0 {
		t.Errorf("Next with the greatest fee = %v, %d, which has at most 64 bits", greatest, code)
	}
}

func TestNextSeconds(t *testing.T) {
	p := params.Genesis()
	b := api.Block{Number: 1, Time: 50}
	fee := number(100_000_000)
	expectNoNext(t, b, 0, 0, p, api.ErrInvalidArgument)
	expectNext(t, b, 1, 0, p, api.Block{Number: 2, Time: 51, BaseFee: fee})
	expectNext(t, b, api.MaxTickSeconds-1, 0, p, api.Block{Number: 2, Time: 49 + 1<<20, BaseFee: fee})
	expectNext(t, b, api.MaxTickSeconds, 0, p, api.Block{Number: 2, Time: 50 + 1<<20, BaseFee: fee})
	expectNoNext(t, b, api.MaxTickSeconds+1, 0, p, api.ErrInvalidArgument)
	expectNoNext(t, b, 1<<32+1, 0, p, api.ErrInvalidArgument)
	expectNoNext(t, b, max64, 0, p, api.ErrInvalidArgument)
}

func TestNextInvalidParams(t *testing.T) {
	for _, p := range invalidParams() {
		expectNoNext(t, api.Block{Number: 1}, 1, 0, p, api.ErrInvalidParams)
		expectNoNext(t, api.Block{Number: 1}, api.MaxTickSeconds, max64, p, api.ErrInvalidParams)
	}
}

func TestNextOverflow(t *testing.T) {
	p := params.Genesis()
	fee := number(100_000_000)
	expectNext(t, api.Block{Number: max64 - 1}, 1, 0, p, api.Block{Number: max64, Time: 1, BaseFee: fee})
	expectNoNext(t, api.Block{Number: max64}, 1, 0, p, api.ErrOverflow)
	expectNext(t, api.Block{Time: max64 - 1}, 1, 0, p, api.Block{Number: 1, Time: max64, BaseFee: fee})
	expectNoNext(t, api.Block{Time: max64 - 1}, 2, 0, p, api.ErrOverflow)
	expectNoNext(t, api.Block{Time: max64}, 1, 0, p, api.ErrOverflow)
	expectNext(t, api.Block{Time: max64 - 1<<20}, 1<<20, 0, p, api.Block{Number: 1, Time: max64, BaseFee: fee})
	expectNoNext(t, api.Block{Time: max64 - 1<<20 + 1}, 1<<20, 0, p, api.ErrOverflow)
	expectNoNext(t, api.Block{Number: max64, Time: max64}, 1<<20, max64, p, api.ErrOverflow)
}

func TestNextErrorOrder(t *testing.T) {
	last := api.Block{Number: max64, Time: max64}
	expectNoNext(t, last, 0, 0, params.Genesis(), api.ErrInvalidArgument)
	expectNoNext(t, last, 1<<20+1, 0, params.Genesis(), api.ErrInvalidArgument)
	for _, p := range invalidParams() {
		expectNoNext(t, last, 0, 0, p, api.ErrInvalidArgument)
		expectNoNext(t, last, 1<<20+1, 0, p, api.ErrInvalidArgument)
		expectNoNext(t, last, 1, 0, p, api.ErrInvalidParams)
		expectNoNext(t, api.Block{Number: max64}, 1, 0, p, api.ErrInvalidParams)
		expectNoNext(t, api.Block{Time: max64}, 1, 0, p, api.ErrInvalidParams)
	}
}

func TestNextAgainstUnboundedIntegers(t *testing.T) {
	random := rand.New(rand.NewSource(15))
	p := params.Genesis()
	for range 50_000 {
		b := api.Block{Number: randomNumber(random), Time: randomNumber(random), GasUsed: randomNumber(random)}
		seconds := random.Uint64() >> (40 + random.Intn(24))
		expectNextModel(t, b, seconds, random.Uint64()>>random.Intn(64), p)
	}
}

// P15.2

func TestGasOrdinary(t *testing.T) {
	p := params.Genesis()
	b := api.Block{Number: 3, Time: 40, GasUsed: 1_000_000, BaseFee: number(5, 6, 7, 8)}
	expectGas(t, b, 21_000, p, 31_000_000, api.OK)
	expectGas(t, b, 0, p, 31_000_000, api.OK)
	expectGas(t, b, 30_999_999, p, 31_000_000, api.OK)
	expectGas(t, b, 31_000_000, p, 31_000_000, api.OK)
	expectGas(t, b, 31_000_001, p, 31_000_000, api.ErrGasLimit)
	expectGas(t, b, max64, p, 31_000_000, api.ErrGasLimit)
	expectGas(t, api.Block{}, 32_000_000, p, 32_000_000, api.OK)
}

func TestGasOfAFullBlock(t *testing.T) {
	p := params.Genesis()
	expectGas(t, api.Block{GasUsed: 31_999_999}, 1, p, 1, api.OK)
	expectGas(t, api.Block{GasUsed: 31_999_999}, 2, p, 1, api.ErrGasLimit)
	expectGas(t, api.Block{GasUsed: 32_000_000}, 0, p, 0, api.OK)
	expectGas(t, api.Block{GasUsed: 32_000_000}, 1, p, 0, api.ErrGasLimit)
}

// TestGasBeyondALowerLimit takes blocks that used more gas than the limit, as they
// do after governance has lowered it.
func TestGasBeyondALowerLimit(t *testing.T) {
	for _, used := range []uint64{32_000_001, 1 << 40, max64 - 1, max64} {
		expectGas(t, api.Block{GasUsed: used}, 0, params.Genesis(), 0, api.OK)
		expectGas(t, api.Block{GasUsed: used}, 1, params.Genesis(), 0, api.ErrGasLimit)
		expectGas(t, api.Block{GasUsed: used}, 32_000_000, params.Genesis(), 0, api.ErrGasLimit)
		expectGas(t, api.Block{GasUsed: used}, max64, params.Genesis(), 0, api.ErrGasLimit)
	}
}

// TestGasWithInvalidParams takes parameters that Next rejects: the calls of P15.2
// have no such condition.
func TestGasWithInvalidParams(t *testing.T) {
	expectGas(t, api.Block{}, 0, api.Params{}, 0, api.OK)
	expectGas(t, api.Block{}, 1, api.Params{}, 0, api.ErrGasLimit)
	expectGas(t, api.Block{GasUsed: 5}, 0, api.Params{}, 0, api.OK)
	expectGas(t, api.Block{GasUsed: 5}, 7, api.Params{BlockGasLimit: 12}, 7, api.OK)
	expectGas(t, api.Block{GasUsed: 5}, 8, api.Params{BlockGasLimit: 12}, 7, api.ErrGasLimit)
	expectGas(t, api.Block{GasUsed: 1}, max64-1, limited(max64), max64-1, api.OK)
	expectGas(t, api.Block{GasUsed: 1}, max64, limited(max64), max64-1, api.ErrGasLimit)
}

func TestGasBoundariesAgainstUnboundedIntegers(t *testing.T) {
	for _, used := range boundaries() {
		for _, gas := range boundaries() {
			for _, limit := range boundaries() {
				expectGasModel(t, used, gas, limit)
			}
		}
	}
}

func TestGasAgainstUnboundedIntegers(t *testing.T) {
	random := rand.New(rand.NewSource(51))
	for range 100_000 {
		limit := randomNumber(random)
		used := randomNumber(random)
		expectGasModel(t, used, randomNumber(random), limit)
		expectGasModel(t, used, limit-used, limit)
		expectGasModel(t, used, limit-used+1, limit)
	}
}

// TestGasUsedInParts fills a block with several uses.
func TestGasUsedInParts(t *testing.T) {
	p := limited(100)
	b, _ := Genesis(p)
	for part := uint64(1); part <= 13; part++ {
		if GasRemaining(b, p) != 100-part*(part-1)/2 {
			t.Errorf("GasRemaining before part %d = %d", part, GasRemaining(b, p))
		}
		b, _ = UseGas(b, part, p)
	}
	expectGas(t, b, 10, p, 9, api.ErrGasLimit)
	expectGas(t, b, 9, p, 9, api.OK)
	expectNext(t, b, 1, 0, p, api.Block{Number: 2, Time: 1, BaseFee: number(100_000_000)})
}

// General rules

// R5
func TestConcurrentCalls(t *testing.T) {
	var group sync.WaitGroup
	for worker := range uint64(8) {
		group.Go(func() {
			for n := range uint64(200) {
				expectNextModel(t, api.Block{Number: worker, Time: n}, n+1, n*scale/9, params.Genesis())
				expectGasModel(t, n, worker, n+3)
			}
		})
	}
	group.Wait()
}
