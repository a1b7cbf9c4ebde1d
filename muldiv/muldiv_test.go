package muldiv

import (
	"encoding/binary"
	"math"
	"math/big"
	"math/rand"
	"slices"
	"testing"

	"pontage/api"
)

const max64 = math.MaxUint64

var (
	bigOne   = big.NewInt(1)
	bigLimit = new(big.Int).Lsh(bigOne, 256)
)

// number returns the integer with the given limbs, the least significant first.
func number(limbs ...uint64) api.Uint256 {
	var n api.Uint256
	copy(n[:], limbs)
	return n
}

func maximum() api.Uint256 { return number(max64, max64, max64, max64) }

// toBig returns low + 2^256 * high.
func toBig(low, high api.Uint256) *big.Int {
	n := new(big.Int)
	for _, limb := range slices.Backward(append(low[:], high[:]...)) {
		n.Lsh(n, 64).Or(n, new(big.Int).SetUint64(limb))
	}
	return n
}

// fromBig returns the low and the high half of n.
func fromBig(n *big.Int) (low, high api.Uint256) {
	data := n.FillBytes(make([]byte, 64))
	for i := range 4 {
		low[i] = binary.BigEndian.Uint64(data[56-8*i:])
		high[i] = binary.BigEndian.Uint64(data[24-8*i:])
	}
	return low, high
}

func lowHalf(n *big.Int) api.Uint256 {
	low, _ := fromBig(n)
	return low
}

func single(a api.Uint256) *big.Int { return toBig(a, api.Uint256{}) }

func fits(n *big.Int) bool { return n.Sign() >= 0 && n.Cmp(bigLimit) < 0 }

// boundaries returns the powers of two at which the number of words changes,
// their neighbours, and words of ones and zeros in turn: such divisors make the
// estimate of a digit too large.
func boundaries() []api.Uint256 {
	values := []api.Uint256{
		number(0), number(1), number(2), number(3), number(10), number(1 << 63), number(max64 - 1), number(max64),
		number(0, max64), number(max64, max64), number(max64, 1<<63), number(0, 0, max64), number(max64, 0, max64), number(max64, max64, 1<<63),
		number(max64, 0, max64, 1<<63), number(max64, max64, max64, 1<<63), number(max64, max64, 0, 1<<63), number(0, 0, 1, 1<<63), number(0, max64, max64, max64),
		number(0, 0, max64, 1<<63-1), number(max64-1, max64, max64, max64), maximum(),
	}
	for _, exponent := range []uint{64, 128, 192, 255} {
		power := new(big.Int).Lsh(bigOne, exponent)
		values = append(values, lowHalf(power), lowHalf(new(big.Int).Sub(power, bigOne)), lowHalf(new(big.Int).Add(power, bigOne)))
	}
	return values
}

// sampler draws pseudorandom numbers, the same ones in every run.
type sampler struct{ source *rand.Rand }

func newSampler() sampler { return sampler{rand.New(rand.NewSource(2))} }

// next returns a number of any bit length. Half of its numbers have limbs near
// the ends of the range, where carries and corrections occur.
func (s sampler) next() api.Uint256 {
	if s.source.Intn(2) == 0 {
		limit := new(big.Int).Lsh(bigOne, uint(s.source.Intn(257)))
		return lowHalf(new(big.Int).Rand(s.source, limit))
	}
	var n api.Uint256
	choices := []uint64{0, 1, max64, max64 - 1, 1 << 63, 1<<63 - 1, s.source.Uint64()}
	for i := range 1 + s.source.Intn(4) {
		n[i] = choices[s.source.Intn(len(choices))]
	}
	return n
}

func checkMul(t *testing.T, a, b api.Uint256) {
	t.Helper()
	wantLow, wantHigh := fromBig(new(big.Int).Mul(single(a), single(b)))
	if low, high := Mul(a, b); low != wantLow || high != wantHigh {
		t.Fatalf("Mul(%v, %v) = %v, %v; want %v, %v", a, b, low, high, wantLow, wantHigh)
	}
}

// checkDiv512 compares a division with the one over the mathematical integers.
func checkDiv512(t *testing.T, low, high, c api.Uint256) {
	t.Helper()
	var wantQuotient, wantRemainder api.Uint256
	wantCode := api.ErrDivisionByZero
	if c != (api.Uint256{}) {
		quotient, remainder := new(big.Int).QuoRem(toBig(low, high), single(c), new(big.Int))
		wantCode = api.ErrOverflow
		if fits(quotient) {
			wantQuotient, wantRemainder, wantCode = lowHalf(quotient), lowHalf(remainder), api.OK
		}
	}
	if quotient, remainder, code := Div512(low, high, c); quotient != wantQuotient || remainder != wantRemainder || code != wantCode {
		t.Fatalf("Div512(%v, %v, %v) = %v, %v, %d; want %v, %v, %d", low, high, c, quotient, remainder, code, wantQuotient, wantRemainder, wantCode)
	}
}

// wantMulDiv returns what MulDivFloor and MulDivCeil must return over the
// mathematical integers.
func wantMulDiv(a, b, c api.Uint256) (floor, ceil api.Uint256, floorCode, ceilCode api.Errno) {
	if c == (api.Uint256{}) {
		return floor, ceil, api.ErrDivisionByZero, api.ErrDivisionByZero
	}
	floorCode, ceilCode = api.ErrOverflow, api.ErrOverflow
	product := new(big.Int).Mul(single(a), single(b))
	exactFloor, remainder := new(big.Int).QuoRem(product, single(c), new(big.Int))
	exactCeil := new(big.Int).Set(exactFloor)
	if remainder.Sign() != 0 {
		exactCeil.Add(exactCeil, bigOne)
	}
	if fits(exactFloor) {
		floor, floorCode = lowHalf(exactFloor), api.OK
	}
	if fits(exactCeil) {
		ceil, ceilCode = lowHalf(exactCeil), api.OK
	}
	return floor, ceil, floorCode, ceilCode
}

func checkMulDiv(t *testing.T, a, b, c api.Uint256) {
	t.Helper()
	floor, ceil, floorCode, ceilCode := wantMulDiv(a, b, c)
	if got, code := MulDivFloor(a, b, c); got != floor || code != floorCode {
		t.Fatalf("MulDivFloor(%v, %v, %v) = %v, %d; want %v, %d", a, b, c, got, code, floor, floorCode)
	}
	if got, code := MulDivCeil(a, b, c); got != ceil || code != ceilCode {
		t.Fatalf("MulDivCeil(%v, %v, %v) = %v, %d; want %v, %d", a, b, c, got, code, ceil, ceilCode)
	}
}

// P2.1

func TestMul(t *testing.T) {
	for _, c := range []struct{ a, b, low, high api.Uint256 }{
		{number(0), number(0), number(0), number(0)},
		{number(0), maximum(), number(0), number(0)},
		{number(7), number(6), number(42), number(0)},
		{number(1), maximum(), maximum(), number(0)},
		{number(max64), number(max64), number(1, max64-1), number(0)},
		{number(0, 1), number(max64), number(0, max64), number(0)},
		{number(0, 0, 1), number(0, 0, 1), number(0), number(1)},
		{number(0, 1), number(0, 0, 0, 1<<63), number(0), number(1 << 63)},
		{number(0, 0, 0, 1<<63), number(2), number(0), number(1)},
		{number(0, 0, 0, 1<<63), number(0, 0, 0, 1<<63), number(0), number(0, 0, 0, 1<<62)},
		{maximum(), number(2), number(max64-1, max64, max64, max64), number(1)},
		{maximum(), maximum(), number(1), number(max64-1, max64, max64, max64)},
	} {
		if low, high := Mul(c.a, c.b); low != c.low || high != c.high {
			t.Errorf("Mul(%v, %v) = %v, %v; want %v, %v", c.a, c.b, low, high, c.low, c.high)
		}
		if low, high := Mul(c.b, c.a); low != c.low || high != c.high {
			t.Errorf("Mul(%v, %v) = %v, %v; want %v, %v", c.b, c.a, low, high, c.low, c.high)
		}
	}
}

func TestMulAgainstIntegers(t *testing.T) {
	for _, a := range boundaries() {
		for _, b := range boundaries() {
			checkMul(t, a, b)
		}
	}
	s := newSampler()
	for range 10000 {
		checkMul(t, s.next(), s.next())
	}
}

func TestDiv512(t *testing.T) {
	const thirds = max64 / 3
	for _, c := range []struct {
		low, high, c, quotient, remainder api.Uint256
		code                              api.Errno
	}{
		{number(100), number(0), number(7), number(14), number(2), api.OK},
		{number(98), number(0), number(7), number(14), number(0), api.OK},
		{number(0), number(0), number(1), number(0), number(0), api.OK},
		{number(6), number(0), number(7), number(0), number(6), api.OK},
		{maximum(), number(0), number(1), maximum(), number(0), api.OK},
		{maximum(), number(0), number(3), number(thirds, thirds, thirds, thirds), number(0), api.OK},
		{maximum(), number(0), maximum(), number(1), number(0), api.OK},
		{maximum(), number(0), number(max64), number(1, 1, 1, 1), number(0), api.OK},
		{maximum(), number(0), number(0, 1), number(max64, max64, max64), number(max64), api.OK},
		{maximum(), number(0), number(0, 0, 1), number(max64, max64), number(max64, max64), api.OK},
		{maximum(), number(0), number(0, 0, 0, 1<<63), number(1), number(max64, max64, max64, 1<<63-1), api.OK},
		{number(0), number(1), number(2), number(0, 0, 0, 1<<63), number(0), api.OK},
		{number(5), number(0, 0, 1), number(0, 0, 0, 1), number(0, 0, 0, 1), number(5), api.OK},
		{number(0), number(1), number(1), number(0), number(0), api.ErrOverflow},
		{number(1), maximum(), maximum(), number(0), number(0), api.ErrOverflow},
		{maximum(), maximum(), maximum(), number(0), number(0), api.ErrOverflow},
		{number(7), number(3), number(2), number(0), number(0), api.ErrOverflow},
		{number(0), number(0), number(0), number(0), number(0), api.ErrDivisionByZero},
		{number(5), number(0), number(0), number(0), number(0), api.ErrDivisionByZero},
		{maximum(), maximum(), number(0), number(0), number(0), api.ErrDivisionByZero},
	} {
		if quotient, remainder, code := Div512(c.low, c.high, c.c); quotient != c.quotient || remainder != c.remainder || code != c.code {
			t.Errorf("Div512(%v, %v, %v) = %v, %v, %d; want %v, %v, %d", c.low, c.high, c.c, quotient, remainder, code, c.quotient, c.remainder, c.code)
		}
	}
}

func TestDiv512AgainstIntegers(t *testing.T) {
	for _, low := range boundaries() {
		for _, high := range boundaries() {
			for _, c := range boundaries() {
				checkDiv512(t, low, high, c)
			}
		}
	}
	s := newSampler()
	for range 50000 {
		checkDiv512(t, s.next(), s.next(), s.next())
	}
}

// The dividends are put together from a quotient and a remainder, so that all
// of them fit, and quotients and remainders take the boundary values.
func TestDiv512OfComposedDividends(t *testing.T) {
	for _, c := range boundaries() {
		for _, quotient := range boundaries() {
			for _, remainder := range boundaries() {
				if single(remainder).Cmp(single(c)) >= 0 {
					continue
				}
				dividend := new(big.Int).Mul(single(quotient), single(c))
				low, high := fromBig(dividend.Add(dividend, single(remainder)))
				if gotQuotient, gotRemainder, code := Div512(low, high, c); gotQuotient != quotient || gotRemainder != remainder || code != api.OK {
					t.Fatalf("Div512(%v, %v, %v) = %v, %v, %d; want %v, %v", low, high, c, gotQuotient, gotRemainder, code, quotient, remainder)
				}
			}
		}
	}
}

// The largest dividend whose quotient fits, and the next one, whose quotient
// does not fit, for divisors of every bit length.
func TestDiv512AtTheEdgeOfTheRange(t *testing.T) {
	s := newSampler()
	for length := range 256 {
		c := new(big.Int).Rand(s.source, new(big.Int).Lsh(bigOne, uint(length)))
		c.SetBit(c, length, 1)
		limit := new(big.Int).Lsh(c, 256)
		low, high := fromBig(new(big.Int).Sub(limit, bigOne))
		wantRemainder := lowHalf(new(big.Int).Sub(c, bigOne))
		if quotient, remainder, code := Div512(low, high, lowHalf(c)); quotient != maximum() || remainder != wantRemainder || code != api.OK {
			t.Errorf("Div512(2^256 * %v - 1, %v) = %v, %v, %d", c, c, quotient, remainder, code)
		}
		low, high = fromBig(limit)
		if quotient, remainder, code := Div512(low, high, lowHalf(c)); quotient != (api.Uint256{}) || remainder != (api.Uint256{}) || code != api.ErrOverflow {
			t.Errorf("Div512(2^256 * %v, %v) = %v, %v, %d; want ErrOverflow", c, c, quotient, remainder, code)
		}
	}
}

func TestDivMod(t *testing.T) {
	for _, c := range []struct {
		a, b, quotient, remainder api.Uint256
		code                      api.Errno
	}{
		{number(17), number(5), number(3), number(2), api.OK},
		{number(15), number(5), number(3), number(0), api.OK},
		{number(0), number(5), number(0), number(0), api.OK},
		{number(4), number(5), number(0), number(4), api.OK},
		{number(0, 0, 0, 1), number(0, 1), number(0, 0, 1), number(0), api.OK},
		{number(7, 9), number(0, 10), number(0), number(7, 9), api.OK},
		{maximum(), number(1), maximum(), number(0), api.OK},
		{maximum(), maximum(), number(1), number(0), api.OK},
		{number(max64-1, max64, max64, max64), maximum(), number(0), number(max64-1, max64, max64, max64), api.OK},
		{number(5), number(0), number(0), number(0), api.ErrDivisionByZero},
		{number(0), number(0), number(0), number(0), api.ErrDivisionByZero},
		{maximum(), number(0), number(0), number(0), api.ErrDivisionByZero},
	} {
		if quotient, remainder, code := DivMod(c.a, c.b); quotient != c.quotient || remainder != c.remainder || code != c.code {
			t.Errorf("DivMod(%v, %v) = %v, %v, %d; want %v, %v, %d", c.a, c.b, quotient, remainder, code, c.quotient, c.remainder, c.code)
		}
	}
}

func TestDivModEqualsDiv512(t *testing.T) {
	for _, a := range boundaries() {
		for _, b := range boundaries() {
			quotient, remainder, code := DivMod(a, b)
			wantQuotient, wantRemainder, wantCode := Div512(a, api.Uint256{}, b)
			if quotient != wantQuotient || remainder != wantRemainder || code != wantCode {
				t.Fatalf("DivMod(%v, %v) = %v, %v, %d; want %v, %v, %d", a, b, quotient, remainder, code, wantQuotient, wantRemainder, wantCode)
			}
		}
	}
}

// P2.2

func TestMulDiv(t *testing.T) {
	for _, c := range []struct {
		a, b, c, floor, ceil api.Uint256
		floorCode, ceilCode  api.Errno
	}{
		{number(7), number(5), number(10), number(3), number(4), api.OK, api.OK},
		{number(5), number(4), number(10), number(2), number(2), api.OK, api.OK},
		{number(0), number(0), number(1), number(0), number(0), api.OK, api.OK},
		{number(0), maximum(), number(3), number(0), number(0), api.OK, api.OK},
		{number(1), number(1), maximum(), number(0), number(1), api.OK, api.OK},
		{number(max64), number(0, 1), number(max64), number(0, 1), number(0, 1), api.OK, api.OK},
		{number(0, 0, 1), number(0, 0, 1), number(0, 1), number(0, 0, 0, 1), number(0, 0, 0, 1), api.OK, api.OK},
		{maximum(), maximum(), maximum(), maximum(), maximum(), api.OK, api.OK},
		{maximum(), number(1), number(1), maximum(), maximum(), api.OK, api.OK},
		{maximum(), number(0, 0, 0, 1<<63), maximum(), number(0, 0, 0, 1<<63), number(0, 0, 0, 1<<63), api.OK, api.OK},
		{maximum(), number(1), number(2), number(max64, max64, max64, 1<<63-1), number(0, 0, 0, 1<<63), api.OK, api.OK},
		{number(max64, max64, 1), number(1, 0, 2), number(4), maximum(), number(0), api.OK, api.ErrOverflow},
		{maximum(), number(2), number(1), number(0), number(0), api.ErrOverflow, api.ErrOverflow},
		{number(0, 0, 1), number(0, 0, 1), number(1), number(0), number(0), api.ErrOverflow, api.ErrOverflow},
		{maximum(), maximum(), number(max64-1, max64, max64, max64), number(0), number(0), api.ErrOverflow, api.ErrOverflow},
		{number(7), number(5), number(0), number(0), number(0), api.ErrDivisionByZero, api.ErrDivisionByZero},
		{number(0), number(0), number(0), number(0), number(0), api.ErrDivisionByZero, api.ErrDivisionByZero},
		{maximum(), maximum(), number(0), number(0), number(0), api.ErrDivisionByZero, api.ErrDivisionByZero},
	} {
		if got, code := MulDivFloor(c.a, c.b, c.c); got != c.floor || code != c.floorCode {
			t.Errorf("MulDivFloor(%v, %v, %v) = %v, %d; want %v, %d", c.a, c.b, c.c, got, code, c.floor, c.floorCode)
		}
		if got, code := MulDivCeil(c.a, c.b, c.c); got != c.ceil || code != c.ceilCode {
			t.Errorf("MulDivCeil(%v, %v, %v) = %v, %d; want %v, %d", c.a, c.b, c.c, got, code, c.ceil, c.ceilCode)
		}
	}
}

func TestMulDivAgainstIntegers(t *testing.T) {
	for _, a := range boundaries() {
		for _, b := range boundaries() {
			for _, c := range boundaries() {
				checkMulDiv(t, a, b, c)
			}
		}
	}
	s := newSampler()
	for range 50000 {
		checkMulDiv(t, s.next(), s.next(), s.next())
	}
}

// The quotients are close to 2^256 - 1 from both sides. In some of the cases
// the floor fits, but the number that is rounded up does not.
func TestMulDivAtTheEdgeOfTheRange(t *testing.T) {
	onlyFloorFits := 0
	for _, c := range boundaries() {
		for addend := int64(1); addend <= 5; addend++ {
			a := new(big.Int).Add(single(c), big.NewInt(addend))
			if c == (api.Uint256{}) || !fits(a) {
				continue
			}
			b := new(big.Int).Lsh(single(c), 256)
			b.Div(b, a)
			for i := 0; i < 3 && fits(b); i++ {
				_, _, floorCode, ceilCode := wantMulDiv(lowHalf(a), lowHalf(b), c)
				if floorCode != ceilCode {
					onlyFloorFits++
				}
				checkMulDiv(t, lowHalf(a), lowHalf(b), c)
				b.Add(b, bigOne)
			}
		}
	}
	if onlyFloorFits == 0 {
		t.Error("no case in which only the floor fits")
	}
}

func TestChapterExamples(t *testing.T) {
	if got, code := MulDivFloor(number(7), number(5), number(10)); got != number(3) || code != api.OK {
		t.Errorf("MulDivFloor(7, 5, 10) = %v, %d", got, code)
	}
	if got, code := MulDivCeil(number(7), number(5), number(10)); got != number(4) || code != api.OK {
		t.Errorf("MulDivCeil(7, 5, 10) = %v, %d", got, code)
	}
	if quotient, remainder, code := DivMod(number(5), number(0)); quotient != number(0) || remainder != number(0) || code != api.ErrDivisionByZero {
		t.Errorf("DivMod(5, 0) = %v, %v, %d", quotient, remainder, code)
	}
}

func BenchmarkMulDivFloor(b *testing.B) {
	for range b.N {
		MulDivFloor(maximum(), maximum(), maximum())
	}
}
