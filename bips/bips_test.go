package bips

import (
	"encoding/binary"
	"math"
	"math/big"
	"math/rand"
	"sync"
	"testing"

	"pontage/api"
)

const max64 = math.MaxUint64

var (
	bigOne   = big.NewInt(1)
	bigBips  = big.NewInt(api.BasisPoints)
	bigLimit = new(big.Int).Lsh(bigOne, 256)
)

// number returns the integer with the given limbs, the least significant first.
func number(limbs ...uint64) api.Uint256 {
	var n api.Uint256
	copy(n[:], limbs)
	return n
}

func maximum() api.Uint256 { return number(max64, max64, max64, max64) }

// fromBig converts without any call of the project's arithmetic.
func fromBig(n *big.Int) api.Uint256 {
	var a api.Uint256
	data := n.FillBytes(make([]byte, 32))
	for i := range a {
		a[i] = binary.BigEndian.Uint64(data[24-8*i:])
	}
	return a
}

func fromUint(n uint64) *big.Int { return new(big.Int).SetUint64(n) }

// amounts returns integers from 0 to 2^256 - 1: the ends of the range, the powers
// of two, multiples of BasisPoints, the numbers at which factors overflow, each
// with its neighbours, and pseudorandom integers of all bit lengths, the same
// ones in every run.
func amounts() []*big.Int {
	values := []*big.Int{new(big.Int), bigLimit}
	for exponent := range uint(256) {
		power := new(big.Int).Lsh(bigOne, exponent)
		values = append(values, power, new(big.Int).Div(new(big.Int).Mul(power, bigBips), fromUint(10001)))
	}
	for _, factor := range []uint64{1, 3, 5000, 9999, 10000, 20000} {
		values = append(values, new(big.Int).Mul(bigBips, fromUint(factor)))
	}
	for _, factor := range factors() {
		if factor != 0 {
			limit := new(big.Int).Mul(bigLimit, bigBips)
			values = append(values, limit.Div(limit, fromUint(factor)))
		}
	}
	source := rand.New(rand.NewSource(5))
	for length := range uint(257) {
		values = append(values, new(big.Int).Rand(source, new(big.Int).Lsh(bigOne, length)))
	}
	var inRange []*big.Int
	for _, value := range values {
		for _, offset := range []int64{-1, 0, 1} {
			n := new(big.Int).Add(value, big.NewInt(offset))
			if n.Sign() >= 0 && n.Cmp(bigLimit) < 0 {
				inRange = append(inRange, n)
			}
		}
	}
	return inRange
}

// factors returns basis points: the ends of the range, both sides of BasisPoints
// and of the powers of two, and pseudorandom ones.
func factors() []uint64 {
	values := []uint64{0, 1, 2, 3, 2499, 2500, 5000, 9998, 9999, 10000, 10001, 10002, 19999, 20000, 25000, 4851651930000, max64 - 1, max64}
	for exponent := range 64 {
		power := uint64(1) << exponent
		values = append(values, power-1, power, power+1)
	}
	source := rand.New(rand.NewSource(55))
	for range 60 {
		values = append(values, source.Uint64()>>source.Intn(64), uint64(source.Intn(10001)))
	}
	return values
}

// scaleByBig is P5.1's formula, evaluated with unbounded integers.
func scaleByBig(n *big.Int, b uint64) (api.Uint256, api.Errno) {
	share := new(big.Int).Mul(n, fromUint(b))
	share.Div(share, bigBips)
	if share.Cmp(bigLimit) >= 0 {
		return api.Uint256{}, api.ErrOverflow
	}
	return fromBig(share), api.OK
}

// expByBig is P5.2's rule, evaluated with unbounded integers.
func expByBig(x uint64, terms int) uint64 {
	h := new(big.Int).Set(bigBips)
	for i := int64(terms); i >= 1; i-- {
		h.Mul(h, fromUint(x))
		h.Div(h, new(big.Int).Mul(big.NewInt(i), bigBips))
		h.Add(h, bigBips)
	}
	return h.Uint64()
}

func expectScale(t *testing.T, n api.Uint256, b uint64, want api.Uint256, wantCode api.Errno) {
	t.Helper()
	if got, code := Scale(n, b); got != want || code != wantCode {
		t.Errorf("Scale(%v, %d) = %v, %d; want %v, %d", n, b, got, code, want, wantCode)
	}
}

func expectSplit(t *testing.T, n api.Uint256, b uint64, part, rest api.Uint256, wantCode api.Errno) {
	t.Helper()
	if gotPart, gotRest, code := Split(n, b); gotPart != part || gotRest != rest || code != wantCode {
		t.Errorf("Split(%v, %d) = %v, %v, %d; want %v, %v, %d", n, b, gotPart, gotRest, code, part, rest, wantCode)
	}
}

func expectExp(t *testing.T, x uint64, terms int, want uint64, wantCode api.Errno) {
	t.Helper()
	if got, code := Exp(x, terms); got != want || code != wantCode {
		t.Errorf("Exp(%d, %d) = %d, %d; want %d, %d", x, terms, got, code, want, wantCode)
	}
}

func expectScaleExp(t *testing.T, n api.Uint256, x uint64, terms int, want api.Uint256, wantCode api.Errno) {
	t.Helper()
	if got, code := ScaleExp(n, x, terms); got != want || code != wantCode {
		t.Errorf("ScaleExp(%v, %d, %d) = %v, %d; want %v, %d", n, x, terms, got, code, want, wantCode)
	}
}

func TestChapterExamples(t *testing.T) {
	expectExp(t, 10000, 1, 20000, api.OK)
	expectExp(t, 10000, 4, 27083, api.OK)
	expectSplit(t, number(10), 2500, number(2), number(8), api.OK)
}

// P5.1

func TestScale(t *testing.T) {
	for _, c := range []struct {
		n    api.Uint256
		b    uint64
		want api.Uint256
		code api.Errno
	}{
		{number(0), 0, number(0), api.OK},
		{number(0), max64, number(0), api.OK},
		{maximum(), 0, number(0), api.OK},
		{number(10), 2500, number(2), api.OK},
		{number(9999), 1, number(0), api.OK},
		{number(10000), 1, number(1), api.OK},
		{number(19999), 1, number(1), api.OK},
		{number(1), 9999, number(0), api.OK},
		{number(1), 10000, number(1), api.OK},
		{number(1), 19999, number(1), api.OK},
		{number(0, 10000), max64, number(0, max64), api.OK},
		{maximum(), 9999, fromBig(new(big.Int).Div(new(big.Int).Mul(new(big.Int).Sub(bigLimit, bigOne), fromUint(9999)), bigBips)), api.OK},
		{maximum(), 10000, maximum(), api.OK},
		{maximum(), 10001, number(), api.ErrOverflow},
		{maximum(), max64, number(), api.ErrOverflow},
		{number(max64, max64, max64, max64>>1), 20000, number(max64-1, max64, max64, max64), api.OK},
		{number(max64, max64, max64, max64>>1), 20001, number(), api.ErrOverflow},
		{number(0, 0, 0, 1<<63), 20000, number(), api.ErrOverflow},
		{number(0, 0, 0, 1<<63), 19999, fromBig(new(big.Int).Div(new(big.Int).Mul(new(big.Int).Lsh(bigOne, 255), fromUint(19999)), bigBips)), api.OK},
	} {
		expectScale(t, c.n, c.b, c.want, c.code)
	}
}

func TestSplit(t *testing.T) {
	for _, c := range []struct {
		n          api.Uint256
		b          uint64
		part, rest api.Uint256
		code       api.Errno
	}{
		{number(0), 0, number(0), number(0), api.OK},
		{number(0), 10000, number(0), number(0), api.OK},
		{number(3), 5000, number(1), number(2), api.OK},
		{number(1), 9999, number(0), number(1), api.OK},
		{number(0, 1), 1, number(1844674407370955), number(max64 - 1844674407370954), api.OK},
		{maximum(), 0, number(0), maximum(), api.OK},
		{maximum(), 10000, maximum(), number(0), api.OK},
		{number(0), 10001, number(), number(), api.ErrInvalidArgument},
		{number(5), 10001, number(), number(), api.ErrInvalidArgument},
		{maximum(), 10001, number(), number(), api.ErrInvalidArgument},
		{number(5), max64, number(), number(), api.ErrInvalidArgument},
		{maximum(), max64, number(), number(), api.ErrInvalidArgument},
	} {
		expectSplit(t, c.n, c.b, c.part, c.rest, c.code)
	}
}

func TestScaleAndSplitAgainstBig(t *testing.T) {
	overflows := 0
	for _, n := range amounts() {
		for _, b := range factors() {
			want, code := scaleByBig(n, b)
			expectScale(t, fromBig(n), b, want, code)
			if code != api.OK {
				overflows++
			}
			if b > api.BasisPoints {
				expectSplit(t, fromBig(n), b, number(), number(), api.ErrInvalidArgument)
				continue
			}
			share := new(big.Int).Div(new(big.Int).Mul(n, fromUint(b)), bigBips)
			expectSplit(t, fromBig(n), b, fromBig(share), fromBig(new(big.Int).Sub(n, share)), api.OK)
		}
	}
	if overflows == 0 {
		t.Error("no sample overflows")
	}
}

// P5.2

func TestExp(t *testing.T) {
	for _, c := range []struct {
		x     uint64
		terms int
		want  uint64
	}{
		{1, 1, 10001},
		{1, 20, 10001},
		{5000, 1, 15000},
		{5000, 2, 16250},
		{9999, 1, 19999},
		{10000, 2, 25000},
		{10000, 3, 26666},
		{10000, api.BaseFeeTerms, 27182},
		{10000, api.MaxExpTerms, 27182},
		{199999, 1, 209999},
		{api.MaxExponent, 1, 210000},
		{api.MaxExponent, 2, 2210000},
	} {
		expectExp(t, c.x, c.terms, c.want, api.OK)
	}
}

func TestExpRejectsArguments(t *testing.T) {
	for _, x := range []uint64{api.MaxExponent + 1, api.MaxExponent * 2, 1 << 32, 1 << 63, max64} {
		for _, terms := range []int{0, 1, api.BaseFeeTerms, api.MaxExpTerms, api.MaxExpTerms + 1} {
			expectExp(t, x, terms, 0, api.ErrInvalidArgument)
		}
	}
	for _, terms := range []int{math.MinInt, -20, -1, 0, api.MaxExpTerms + 1, 1000, 1 << 32, math.MaxInt} {
		for _, x := range []uint64{0, 1, 10000, api.MaxExponent} {
			expectExp(t, x, terms, 0, api.ErrInvalidArgument)
		}
	}
}

func TestScaleExp(t *testing.T) {
	for _, c := range []struct {
		n     api.Uint256
		x     uint64
		terms int
		want  api.Uint256
		code  api.Errno
	}{
		{number(0), api.MaxExponent, api.MaxExpTerms, number(0), api.OK},
		{number(100), 10000, 1, number(200), api.OK},
		{number(3), 10000, 4, number(8), api.OK},
		{number(9999), 1, 1, number(9999), api.OK},
		{number(10000), 1, 1, number(10001), api.OK},
		{maximum(), 0, 5, maximum(), api.OK},
		{maximum(), 1, 1, number(), api.ErrOverflow},
		{number(max64, max64, max64, max64>>1), 10000, 1, number(max64-1, max64, max64, max64), api.OK},
		{number(0, 0, 0, 1<<63), 10000, 1, number(), api.ErrOverflow},
		{number(5), api.MaxExponent + 1, 1, number(), api.ErrInvalidArgument},
		{number(5), 1, api.MaxExpTerms + 1, number(), api.ErrInvalidArgument},
		{number(5), 1, 0, number(), api.ErrInvalidArgument},
		{number(5), 1, -1, number(), api.ErrInvalidArgument},
		{number(0), max64, 1, number(), api.ErrInvalidArgument},
		// The error conditions of Exp come before the overflow.
		{maximum(), api.MaxExponent + 1, 1, number(), api.ErrInvalidArgument},
		{maximum(), api.MaxExponent, api.MaxExpTerms + 1, number(), api.ErrInvalidArgument},
		{maximum(), api.MaxExponent, 0, number(), api.ErrInvalidArgument},
	} {
		expectScaleExp(t, c.n, c.x, c.terms, c.want, c.code)
	}
}

// exponents returns exponents with both ends, both sides of the multiples of
// BasisPoints, and pseudorandom ones.
func exponents() []uint64 {
	var values []uint64
	for whole := uint64(0); whole < api.MaxExponent; whole += api.BasisPoints {
		values = append(values, whole, whole+1, whole+api.BasisPoints-1)
	}
	values = append(values, api.MaxExponent)
	source := rand.New(rand.NewSource(555))
	for range 2000 {
		values = append(values, uint64(source.Intn(api.MaxExponent+1)))
	}
	return values
}

func TestExpAgainstBig(t *testing.T) {
	for _, x := range exponents() {
		for terms := 1; terms <= api.MaxExpTerms; terms++ {
			expectExp(t, x, terms, expByBig(x, terms), api.OK)
		}
	}
}

func TestScaleExpAgainstBig(t *testing.T) {
	source := rand.New(rand.NewSource(5555))
	values := exponents()
	for _, n := range amounts() {
		for range 20 {
			x, terms := values[source.Intn(len(values))], 1+source.Intn(api.MaxExpTerms)
			want, code := scaleByBig(n, expByBig(x, terms))
			expectScaleExp(t, fromBig(n), x, terms, want, code)
		}
	}
}

// P5.3

func TestExpOfZero(t *testing.T) {
	for terms := 1; terms <= api.MaxExpTerms; terms++ {
		expectExp(t, 0, terms, api.BasisPoints, api.OK)
	}
}

func TestExpDoesNotDecrease(t *testing.T) {
	var before [api.MaxExpTerms + 1]uint64
	for x := uint64(0); x <= api.MaxExponent; x++ {
		for terms := 1; terms <= api.MaxExpTerms; terms++ {
			value, code := Exp(x, terms)
			if code != api.OK || value < before[terms] || terms > 1 && value < before[terms-1] {
				t.Fatalf("Exp(%d, %d) = %d, %d; Exp(%d, %d) = %d; Exp(%d, %d) = %d", x, terms, value, code, x-1, terms, before[terms], x, terms-1, before[terms-1])
			}
			// The entry of the number of terms before is that of this x already.
			before[terms] = value
		}
	}
}

// General rules

func TestConcurrentCalls(t *testing.T) {
	var group sync.WaitGroup
	for range 8 {
		group.Go(func() {
			for x := uint64(0); x <= api.MaxExponent; x += 1999 {
				expectExp(t, x, api.BaseFeeTerms, expByBig(x, api.BaseFeeTerms), api.OK)
				want, code := scaleByBig(fromUint(max64), expByBig(x, api.BaseFeeTerms))
				expectScaleExp(t, number(max64), x, api.BaseFeeTerms, want, code)
			}
		})
	}
	group.Wait()
}
