package params

import (
	"encoding/binary"
	"math"
	"math/big"
	"math/rand"
	"sync"
	"testing"

	"pontage/api"
)

const max64 = math.MaxUint64

// number returns the integer with the given limbs, the least significant first.
func number(limbs ...uint64) api.Uint256 {
	var n api.Uint256
	copy(n[:], limbs)
	return n
}

func maximum() api.Uint256 { return number(max64, max64, max64, max64) }

func toBig(n api.Uint256) *big.Int {
	var data []byte
	for i := len(n) - 1; i >= 0; i-- {
		data = binary.BigEndian.AppendUint64(data, n[i])
	}
	return new(big.Int).SetBytes(data)
}

// row is a line of the chapter's table. The lowest value of MaxUnits is MinUnits,
// which is not in it.
type row struct {
	key             int
	lowest, highest uint64
	// field returns a pointer to the parameter, a *uint64 or an *api.Uint256.
	field func(p *api.Params) any
}

// table is the chapter's table, in its order.
func table() []row {
	return []row{
		{api.KeySpeedLimit, 1, 1 << 40, func(p *api.Params) any { return &p.SpeedLimit }},
		{api.KeyTolerance, 0, 1 << 20, func(p *api.Params) any { return &p.Tolerance }},
		{api.KeyBacklogInertia, 1, 1 << 20, func(p *api.Params) any { return &p.BacklogInertia }},
		{api.KeyMinBaseFee, 1, max64, func(p *api.Params) any { return &p.MinBaseFee }},
		{api.KeyBlockGasLimit, 1, 1 << 40, func(p *api.Params) any { return &p.BlockGasLimit }},
		{api.KeyInfraFeeCap, 0, max64, func(p *api.Params) any { return &p.InfraFeeCap }},
		{api.KeyBurnBips, 0, 10000, func(p *api.Params) any { return &p.BurnBips }},
		{api.KeyRewardPerUnit, 0, max64, func(p *api.Params) any { return &p.RewardPerUnit }},
		{api.KeyEquilibrationUnits, 1, 1 << 40, func(p *api.Params) any { return &p.EquilibrationUnits }},
		{api.KeyPriceInertia, 1, 1 << 20, func(p *api.Params) any { return &p.PriceInertia }},
		{api.KeyMinUnits, 0, 1 << 20, func(p *api.Params) any { return &p.MinUnits }},
		{api.KeyMaxUnits, 0, 1 << 24, func(p *api.Params) any { return &p.MaxUnits }},
	}
}

// with returns p with the parameter of r replaced by n, and whether n fits its type.
func (r row) with(p api.Params, n api.Uint256) (api.Params, bool) {
	switch field := r.field(&p).(type) {
	case *uint64:
		*field = n[0]
		return p, n == number(n[0])
	case *api.Uint256:
		*field = n
	}
	return p, true
}

// of returns the parameter of r.
func (r row) of(p api.Params) api.Uint256 {
	if field, isSmall := r.field(&p).(*uint64); isSmall {
		return number(*field)
	}
	return *r.field(&p).(*api.Uint256)
}

// allows reports whether n is in the range of r.
func (r row) allows(n api.Uint256, minUnits uint64) bool {
	lowest := r.lowest
	if r.key == api.KeyMaxUnits {
		lowest = minUnits
	}
	value := toBig(n)
	return value.Cmp(new(big.Int).SetUint64(lowest)) >= 0 && value.Cmp(new(big.Int).SetUint64(r.highest)) <= 0
}

// firstInvalidOf is FirstInvalid by the table.
func firstInvalidOf(p api.Params) int {
	for _, r := range table() {
		if !r.allows(r.of(p), p.MinUnits) {
			return r.key
		}
	}
	return 0
}

// setOf is Set by the table.
func setOf(p api.Params, key int, n api.Uint256) (api.Params, api.Errno) {
	for _, r := range table() {
		if r.key == key {
			changed, fits := r.with(p, n)
			if firstInvalidOf(p) != 0 || !fits || firstInvalidOf(changed) != 0 {
				return api.Params{}, api.ErrInvalidParams
			}
			return changed, api.OK
		}
	}
	return api.Params{}, api.ErrUnknownKind
}

// near returns numbers on both sides of the ends of the range of r, and numbers
// that equal one within the range except for a higher limb.
func (r row) near() []api.Uint256 {
	numbers := []api.Uint256{
		number(0), number(1), number(2), number(r.lowest), number(r.lowest + 1), number(r.highest - 1), number(r.highest),
		number(15), number(16), number(65535), number(65536), number(65537), number(1 << 63), number(max64),
	}
	if r.lowest > 0 {
		numbers = append(numbers, number(r.lowest-1))
	}
	if r.highest < max64 {
		numbers = append(numbers, number(r.highest+1))
	}
	for _, low := range []uint64{0, r.lowest, 16, r.highest, max64} {
		numbers = append(numbers, number(low, 1), number(low, 0, 1), number(low, 0, 0, 1), number(low, 0, 0, 1<<63))
	}
	return append(numbers, number(0, max64, max64, max64), maximum())
}

// bases returns valid parameters: those of genesis, the ends of all ranges, and
// others with different values in all fields.
func bases() []api.Params {
	return []api.Params{
		Genesis(),
		{SpeedLimit: 1, BacklogInertia: 1, MinBaseFee: number(1), BlockGasLimit: 1, EquilibrationUnits: 1, PriceInertia: 1},
		{SpeedLimit: 1 << 40, Tolerance: 1 << 20, BacklogInertia: 1 << 20, MinBaseFee: number(max64), BlockGasLimit: 1 << 40, InfraFeeCap: number(max64), BurnBips: 10000, RewardPerUnit: number(max64), EquilibrationUnits: 1 << 40, PriceInertia: 1 << 20, MinUnits: 1 << 20, MaxUnits: 1 << 24},
		{SpeedLimit: 101, Tolerance: 102, BacklogInertia: 103, MinBaseFee: number(104), BlockGasLimit: 105, InfraFeeCap: number(106), BurnBips: 107, RewardPerUnit: number(108), EquilibrationUnits: 109, PriceInertia: 110, MinUnits: 111, MaxUnits: 112},
	}
}

// notKeys are numbers that are no keys, next to the keys and at the ends of the
// range.
func notKeys() []int {
	return []int{math.MinInt, math.MinInt + 1, -12, -1, 0, 13, 14, 1<<8 + 1, 1<<32 + 1, math.MaxInt - 1, math.MaxInt}
}

func expectFirstInvalid(t *testing.T, p api.Params, want int) {
	t.Helper()
	if got := FirstInvalid(p); got != want {
		t.Errorf("FirstInvalid(%v) = %d, want %d", p, got, want)
	}
	if got := Valid(p); got != (want == 0) {
		t.Errorf("Valid(%v) = %t, want %t", p, got, want == 0)
	}
}

func expectGet(t *testing.T, p api.Params, key int, want api.Uint256, wantCode api.Errno) {
	t.Helper()
	if got, code := Get(p, key); got != want || code != wantCode {
		t.Errorf("Get(%v, %d) = %v, %d; want %v, %d", p, key, got, code, want, wantCode)
	}
}

func expectSet(t *testing.T, p api.Params, key int, n api.Uint256, want api.Params, wantCode api.Errno) {
	t.Helper()
	if got, code := Set(p, key, n); got != want || code != wantCode {
		t.Errorf("Set(%v, %d, %v) = %v, %d; want %v, %d", p, key, n, got, code, want, wantCode)
	}
}

// expectSetFails checks that Set returns the code and no parameters.
func expectSetFails(t *testing.T, p api.Params, key int, n api.Uint256, want api.Errno) {
	t.Helper()
	expectSet(t, p, key, n, api.Params{}, want)
}

func TestChapterExamples(t *testing.T) {
	expectSetFails(t, Genesis(), api.KeyBurnBips, number(10001), api.ErrInvalidParams)
	expectFirstInvalid(t, api.Params{}, api.KeySpeedLimit)
}

// P12.1

func TestValidParameters(t *testing.T) {
	for _, p := range bases() {
		expectFirstInvalid(t, p, 0)
	}
}

// Each parameter alone is invalid exactly outside its range.
func TestRangeOfEachParameter(t *testing.T) {
	for _, base := range bases() {
		// Where MinUnits changes, it must stay at most MaxUnits.
		base.MaxUnits = 1 << 24
		for _, r := range table() {
			for _, n := range r.near() {
				p, fits := r.with(base, n)
				if !fits {
					continue
				}
				want := 0
				if !r.allows(n, base.MinUnits) {
					want = r.key
				}
				expectFirstInvalid(t, p, want)
			}
		}
	}
}

// The limits as the chapter writes them, without the table.
func TestLimitsAreInclusive(t *testing.T) {
	highest := api.Params{SpeedLimit: 1 << 40, Tolerance: 1 << 20, BacklogInertia: 1 << 20, MinBaseFee: number(max64), BlockGasLimit: 1 << 40, InfraFeeCap: number(max64), BurnBips: api.BasisPoints, RewardPerUnit: number(max64), EquilibrationUnits: 1 << 40, PriceInertia: 1 << 20, MinUnits: 1 << 20, MaxUnits: 1 << 24}
	lowest := api.Params{SpeedLimit: 1, BacklogInertia: 1, MinBaseFee: number(1), BlockGasLimit: 1, EquilibrationUnits: 1, PriceInertia: 1}
	expectFirstInvalid(t, highest, 0)
	expectFirstInvalid(t, lowest, 0)
	above := func(change func(p *api.Params), want int) {
		t.Helper()
		p := highest
		change(&p)
		expectFirstInvalid(t, p, want)
	}
	above(func(p *api.Params) { p.SpeedLimit++ }, api.KeySpeedLimit)
	above(func(p *api.Params) { p.Tolerance++ }, api.KeyTolerance)
	above(func(p *api.Params) { p.BacklogInertia++ }, api.KeyBacklogInertia)
	above(func(p *api.Params) { p.MinBaseFee = number(0, 1) }, api.KeyMinBaseFee)
	above(func(p *api.Params) { p.BlockGasLimit++ }, api.KeyBlockGasLimit)
	above(func(p *api.Params) { p.InfraFeeCap = number(0, 1) }, api.KeyInfraFeeCap)
	above(func(p *api.Params) { p.BurnBips++ }, api.KeyBurnBips)
	above(func(p *api.Params) { p.RewardPerUnit = number(0, 1) }, api.KeyRewardPerUnit)
	above(func(p *api.Params) { p.EquilibrationUnits++ }, api.KeyEquilibrationUnits)
	above(func(p *api.Params) { p.PriceInertia++ }, api.KeyPriceInertia)
	above(func(p *api.Params) { p.MinUnits++ }, api.KeyMinUnits)
	above(func(p *api.Params) { p.MaxUnits++ }, api.KeyMaxUnits)
	below := func(change func(p *api.Params), want int) {
		t.Helper()
		p := lowest
		change(&p)
		expectFirstInvalid(t, p, want)
	}
	below(func(p *api.Params) { p.SpeedLimit = 0 }, api.KeySpeedLimit)
	below(func(p *api.Params) { p.BacklogInertia = 0 }, api.KeyBacklogInertia)
	below(func(p *api.Params) { p.MinBaseFee = number() }, api.KeyMinBaseFee)
	below(func(p *api.Params) { p.BlockGasLimit = 0 }, api.KeyBlockGasLimit)
	below(func(p *api.Params) { p.EquilibrationUnits = 0 }, api.KeyEquilibrationUnits)
	below(func(p *api.Params) { p.PriceInertia = 0 }, api.KeyPriceInertia)
	below(func(p *api.Params) { p.MinUnits = 1 }, api.KeyMaxUnits)
}

// The range of MaxUnits begins with MinUnits, also if MinUnits is 0 or invalid.
func TestMaxUnitsIsAtLeastMinUnits(t *testing.T) {
	counts := []uint64{0, 1, 2, 16, 1<<20 - 1, 1 << 20, 1<<20 + 1, 1<<24 - 1, 1 << 24, 1<<24 + 1, 1 << 63, max64}
	for _, minUnits := range counts {
		for _, maxUnits := range counts {
			p := Genesis()
			p.MinUnits, p.MaxUnits = minUnits, maxUnits
			switch {
			case minUnits > 1<<20:
				expectFirstInvalid(t, p, api.KeyMinUnits)
			case maxUnits < minUnits || maxUnits > 1<<24:
				expectFirstInvalid(t, p, api.KeyMaxUnits)
			default:
				expectFirstInvalid(t, p, 0)
			}
		}
	}
}

// Of every set of invalid parameters, the one with the first key is returned,
// whether they are too great or too small.
func TestFirstInvalidOfEverySet(t *testing.T) {
	rows := table()
	for set := range 1 << len(rows) {
		tooGreat, tooSmall := Genesis(), Genesis()
		want, wantSmall := 0, 0
		for i := len(rows) - 1; i >= 0; i-- {
			if set>>i&1 == 0 {
				continue
			}
			over := number(rows[i].highest + 1)
			if rows[i].highest == max64 {
				over = number(0, 1)
			}
			tooGreat, _ = rows[i].with(tooGreat, over)
			want = rows[i].key
			if rows[i].lowest > 0 || rows[i].key == api.KeyMaxUnits {
				tooSmall, _ = rows[i].with(tooSmall, number(0))
				wantSmall = rows[i].key
			}
		}
		expectFirstInvalid(t, tooGreat, want)
		expectFirstInvalid(t, tooSmall, wantSmall)
	}
}

// P12.2: Genesis

func TestGenesis(t *testing.T) {
	want := api.Params{
		SpeedLimit: 7000000, Tolerance: 10, BacklogInertia: 102, MinBaseFee: number(100000000),
		BlockGasLimit: 32000000, InfraFeeCap: number(60000000), BurnBips: 1000, RewardPerUnit: number(10),
		EquilibrationUnits: 160000000, PriceInertia: 10, MinUnits: 16, MaxUnits: 65536,
	}
	if got := Genesis(); got != want {
		t.Errorf("Genesis() = %v, want %v", got, want)
	}
	changed := Genesis()
	changed.MinBaseFee[0], changed.MaxUnits = 1, 1
	if got := Genesis(); got != want {
		t.Errorf("Genesis() = %v after a change of its result, want %v", got, want)
	}
}

// P12.2: Get

func TestGet(t *testing.T) {
	for _, p := range bases() {
		for _, r := range table() {
			expectGet(t, p, r.key, r.of(p), api.OK)
		}
	}
	p := bases()[3]
	for key := 1; key <= 12; key++ {
		expectGet(t, p, key, number(uint64(100+key)), api.OK)
	}
}

// Get takes parameters of any value, and returns all limbs.
func TestGetFromInvalidParameters(t *testing.T) {
	wide := number(1, 2, 3, 4)
	for _, r := range table() {
		expectGet(t, api.Params{}, r.key, number(), api.OK)
		for _, n := range append(r.near(), wide) {
			if p, fits := r.with(api.Params{}, n); fits {
				expectGet(t, p, r.key, n, api.OK)
			}
		}
	}
}

func TestGetOfUnknownKeys(t *testing.T) {
	for _, key := range notKeys() {
		for _, p := range append(bases(), api.Params{}) {
			expectGet(t, p, key, number(), api.ErrUnknownKind)
		}
	}
}

// P12.2: Set

// Set replaces the parameter with the key and no other one, within the range of
// the parameter.
func TestSet(t *testing.T) {
	for _, base := range bases() {
		for _, r := range table() {
			for _, n := range r.near() {
				want, wantCode := setOf(base, r.key, n)
				before := base
				expectSet(t, base, r.key, n, want, wantCode)
				if base != before {
					t.Fatalf("Set(%v, %d, %v) changed its argument", before, r.key, n)
				}
			}
		}
	}
}

func TestSetAtTheLimits(t *testing.T) {
	for _, r := range table() {
		p := Genesis()
		p.MinUnits, p.MaxUnits = 0, 1<<24
		for _, n := range []uint64{r.lowest, r.highest} {
			want, _ := r.with(p, number(n))
			expectSet(t, p, r.key, number(n), want, api.OK)
		}
		if r.lowest > 0 {
			expectSetFails(t, p, r.key, number(r.lowest-1), api.ErrInvalidParams)
		}
		if r.highest < max64 {
			expectSetFails(t, p, r.key, number(r.highest+1), api.ErrInvalidParams)
		}
	}
}

// A number with more than 64 bits is outside every range, whatever its lowest 64
// bits are.
func TestSetToGreatNumbers(t *testing.T) {
	for _, base := range bases() {
		for _, r := range table() {
			low := r.of(base)[0]
			for place := 1; place < 4; place++ {
				for _, limb := range []uint64{1, 1 << 32, 1 << 63, max64} {
					n := number(low)
					n[place] = limb
					expectSetFails(t, base, r.key, n, api.ErrInvalidParams)
				}
			}
		}
	}
}

// MinUnits and MaxUnits limit each other.
func TestSetUnits(t *testing.T) {
	p := Genesis()
	p.MinUnits, p.MaxUnits = 100, 200
	for n := range uint64(300) {
		raised, lowered := p, p
		raised.MinUnits, lowered.MaxUnits = n, n
		if n <= 200 {
			expectSet(t, p, api.KeyMinUnits, number(n), raised, api.OK)
		} else {
			expectSetFails(t, p, api.KeyMinUnits, number(n), api.ErrInvalidParams)
		}
		if n >= 100 {
			expectSet(t, p, api.KeyMaxUnits, number(n), lowered, api.OK)
		} else {
			expectSetFails(t, p, api.KeyMaxUnits, number(n), api.ErrInvalidParams)
		}
	}
}

// Set does not repair parameters, also not the one that it would replace.
func TestSetOfInvalidParameters(t *testing.T) {
	for _, invalid := range table() {
		p, _ := invalid.with(Genesis(), number(1<<40+1))
		if invalid.highest == max64 {
			p, _ = invalid.with(Genesis(), number(0, 1))
		}
		expectFirstInvalid(t, p, invalid.key)
		for _, r := range table() {
			expectSetFails(t, p, r.key, r.of(Genesis()), api.ErrInvalidParams)
		}
		for _, n := range invalid.near() {
			expectSetFails(t, p, invalid.key, n, api.ErrInvalidParams)
		}
	}
	// MaxUnits is below MinUnits: either of the two could be corrected.
	p := Genesis()
	p.MinUnits, p.MaxUnits = 20, 19
	expectSetFails(t, p, api.KeyMinUnits, number(19), api.ErrInvalidParams)
	expectSetFails(t, p, api.KeyMaxUnits, number(20), api.ErrInvalidParams)
}

// The chapter names the key before the parameters.
func TestSetOfUnknownKeys(t *testing.T) {
	for _, key := range notKeys() {
		for _, p := range append(bases(), api.Params{}) {
			for _, n := range []api.Uint256{number(), number(16), number(0, 1), maximum()} {
				expectSetFails(t, p, key, n, api.ErrUnknownKind)
			}
		}
	}
}

// What Set has set, Get returns, and the result can be set again.
func TestSetThenGet(t *testing.T) {
	p := Genesis()
	for key := 12; key >= 1; key-- {
		changed, code := Set(p, key, number(uint64(100+key)))
		if code != api.OK {
			t.Fatalf("Set(%v, %d) = %d", p, key, code)
		}
		p = changed
		expectGet(t, p, key, number(uint64(100+key)), api.OK)
	}
	if p != bases()[3] {
		t.Errorf("all parameters were set: %v, want %v", p, bases()[3])
	}
}

// Random calls agree with the table.
func TestRandomCalls(t *testing.T) {
	source := rand.New(rand.NewSource(12))
	rows := table()
	for range 20000 {
		p := bases()[source.Intn(4)]
		for range source.Intn(3) {
			r := rows[source.Intn(len(rows))]
			p, _ = r.with(p, r.near()[source.Intn(len(r.near()))])
		}
		expectFirstInvalid(t, p, firstInvalidOf(p))
		key := source.Intn(15) - 1
		near := rows[source.Intn(len(rows))].near()
		n := near[source.Intn(len(near))]
		want, wantCode := setOf(p, key, n)
		expectSet(t, p, key, n, want, wantCode)
	}
}

// General rules

// R5
func TestConcurrentCalls(t *testing.T) {
	var group sync.WaitGroup
	for worker := range uint64(8) {
		group.Go(func() {
			for key := 1; key <= 12; key++ {
				p := bases()[3]
				want, wantCode := setOf(p, key, number(worker))
				expectSet(t, p, key, number(worker), want, wantCode)
				expectGet(t, p, key, number(uint64(100+key)), api.OK)
				expectFirstInvalid(t, p, 0)
				expectFirstInvalid(t, api.Params{}, api.KeySpeedLimit)
			}
		})
	}
	group.Wait()
}
