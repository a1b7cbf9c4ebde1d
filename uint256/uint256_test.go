package uint256

import (
	"math"
	"math/big"
	"math/rand"
	"slices"
	"testing"

	"pontage/api"
)

const max64 = math.MaxUint64

var (
	bigOne     = big.NewInt(1)
	bigLimit   = new(big.Int).Lsh(bigOne, 256)
	bigLargest = new(big.Int).Sub(bigLimit, bigOne)
)

// number returns the integer with the given limbs, the least significant first.
func number(limbs ...uint64) api.Uint256 {
	var n api.Uint256
	copy(n[:], limbs)
	return n
}

func powerOfTwo(exponent int) api.Uint256 {
	var n api.Uint256
	n[exponent/64] = 1 << (exponent % 64)
	return n
}

func maximum() api.Uint256 { return number(max64, max64, max64, max64) }

// toBig and fromBig shift limb by limb, without any call of the package under test.
func toBig(a api.Uint256) *big.Int {
	n := new(big.Int)
	for _, limb := range slices.Backward(a[:]) {
		n.Lsh(n, 64).Or(n, new(big.Int).SetUint64(limb))
	}
	return n
}

func fromBig(n *big.Int) api.Uint256 {
	var a api.Uint256
	rest := new(big.Int).Set(n)
	mask := new(big.Int).SetUint64(max64)
	for i := range a {
		a[i] = new(big.Int).And(rest, mask).Uint64()
		rest.Rsh(rest, 64)
	}
	return a
}

func fits(n *big.Int) bool { return n.Sign() >= 0 && n.Cmp(bigLimit) < 0 }

// boundaries returns the boundary values of the chapter with their neighbours.
func boundaries() []api.Uint256 {
	values := []api.Uint256{
		number(0), number(1), number(2), number(3), number(256), number(1<<63 - 1), number(1 << 63), number(max64 - 1), number(max64),
		number(max64, 1), number(0, max64), number(max64, max64), number(0, 0, max64), number(max64, 0, max64), number(max64, max64, max64),
		number(0, 0, 0, max64), number(max64, 0, 0, max64), number(0, max64, max64, max64), number(max64, max64, max64, 1<<63-1), number(max64-1, max64, max64, max64), maximum(),
	}
	for _, exponent := range []int{64, 65, 127, 128, 129, 191, 192, 193, 254, 255} {
		power := powerOfTwo(exponent)
		values = append(values, power, fromBig(new(big.Int).Sub(toBig(power), bigOne)), fromBig(new(big.Int).Add(toBig(power), bigOne)))
	}
	return values
}

// samples returns pseudorandom values of all bit lengths, the same ones in every run.
func samples() []api.Uint256 {
	source := rand.New(rand.NewSource(1))
	values := make([]api.Uint256, 0, 257)
	for length := 0; length <= 256; length++ {
		limit := new(big.Int).Lsh(bigOne, uint(length))
		values = append(values, fromBig(new(big.Int).Rand(source, limit)))
	}
	return values
}

// forEachPair calls check for all pairs of boundary values and samples.
func forEachPair(check func(a, b api.Uint256)) {
	values := append(boundaries(), samples()...)
	for _, a := range values {
		for _, b := range values {
			check(a, b)
		}
	}
}

type checkedCase struct {
	a, b, want api.Uint256
	code       api.Errno
}

type checkedOperation func(a, b api.Uint256) (api.Uint256, api.Errno)

func runChecked(t *testing.T, name string, operation checkedOperation, cases []checkedCase) {
	t.Helper()
	for _, c := range cases {
		if got, code := operation(c.a, c.b); got != c.want || code != c.code {
			t.Errorf("%s(%v, %v) = %v, %d; want %v, %d", name, c.a, c.b, got, code, c.want, c.code)
		}
	}
}

// checkOperation compares a checked operation and its saturating form with the
// result over the mathematical integers.
func checkOperation(t *testing.T, name string, checked checkedOperation, saturating func(a, b api.Uint256) api.Uint256, a, b api.Uint256, exact *big.Int) {
	t.Helper()
	want, wantCode, wantSaturated := api.Uint256{}, api.ErrOverflow, maximum()
	switch {
	case fits(exact):
		want, wantCode = fromBig(exact), api.OK
		wantSaturated = want
	case exact.Sign() < 0:
		wantSaturated = api.Uint256{}
	}
	if got, code := checked(a, b); got != want || code != wantCode {
		t.Fatalf("%s(%v, %v) = %v, %d; want %v, %d", name, a, b, got, code, want, wantCode)
	}
	if got := saturating(a, b); got != wantSaturated {
		t.Fatalf("Saturating%s(%v, %v) = %v; want %v", name, a, b, got, wantSaturated)
	}
}

// P1.1

func TestFromUint64(t *testing.T) {
	for _, n := range []uint64{0, 1, 2, 7, 1<<32 - 1, 1 << 32, 1 << 63, max64 - 1, max64} {
		if got := FromUint64(n); got != number(n, 0, 0, 0) {
			t.Errorf("FromUint64(%d) = %v", n, got)
		}
	}
}

func TestCmp(t *testing.T) {
	for _, c := range []struct {
		a, b api.Uint256
		want int
	}{
		{number(), number(), 0},
		{number(0), number(1), -1},
		{number(3), number(5), -1},
		{number(max64), powerOfTwo(64), -1},
		{number(max64, 0, 1), number(0, 1, 1), -1},
		{powerOfTwo(64), powerOfTwo(128), -1},
		{number(max64, max64, max64), powerOfTwo(192), -1},
		{number(max64, max64, max64, 1<<63-1), powerOfTwo(255), -1},
		{number(1, 2, 3, 4), number(1, 2, 3, 4), 0},
		{number(1, 2, 3, 4), number(2, 2, 3, 4), -1},
		{number(9, 2, 3, 4), number(1, 3, 3, 4), -1},
		{number(9, 9, 3, 4), number(1, 2, 4, 4), -1},
		{number(9, 9, 9, 4), number(1, 2, 3, 5), -1},
		{number(max64-1, max64, max64, max64), maximum(), -1},
		{maximum(), maximum(), 0},
	} {
		if got := Cmp(c.a, c.b); got != c.want {
			t.Errorf("Cmp(%v, %v) = %d; want %d", c.a, c.b, got, c.want)
		}
		if got := Cmp(c.b, c.a); got != -c.want {
			t.Errorf("Cmp(%v, %v) = %d; want %d", c.b, c.a, got, -c.want)
		}
	}
}

func TestCmpAgainstIntegers(t *testing.T) {
	forEachPair(func(a, b api.Uint256) {
		if got, want := Cmp(a, b), toBig(a).Cmp(toBig(b)); got != want {
			t.Fatalf("Cmp(%v, %v) = %d; want %d", a, b, got, want)
		}
	})
}

func TestBitLen(t *testing.T) {
	for _, c := range []struct {
		a    api.Uint256
		want int
	}{
		{number(0), 0}, {number(1), 1}, {number(2), 2}, {number(255), 8}, {number(256), 9},
		{number(max64), 64}, {powerOfTwo(64), 65}, {number(max64, 1), 65}, {powerOfTwo(128), 129},
		{powerOfTwo(255), 256}, {maximum(), 256},
	} {
		if got := BitLen(c.a); got != c.want {
			t.Errorf("BitLen(%v) = %d; want %d", c.a, got, c.want)
		}
	}
}

func TestBitLenOfEveryPowerOfTwo(t *testing.T) {
	for exponent := range 256 {
		power := powerOfTwo(exponent)
		if got := BitLen(power); got != exponent+1 {
			t.Errorf("BitLen(2^%d) = %d", exponent, got)
		}
		predecessor := fromBig(new(big.Int).Sub(toBig(power), bigOne))
		if got := BitLen(predecessor); got != exponent {
			t.Errorf("BitLen(2^%d - 1) = %d", exponent, got)
		}
	}
}

func TestUint64(t *testing.T) {
	for _, c := range []struct {
		a    api.Uint256
		want uint64
		ok   bool
	}{
		{number(0), 0, true}, {number(1), 1, true}, {number(max64 - 1), max64 - 1, true}, {number(max64), max64, true},
		{powerOfTwo(64), 0, false}, {number(5, 1), 0, false}, {number(5, 0, 1), 0, false}, {number(5, 0, 0, 1), 0, false},
		{powerOfTwo(128), 0, false}, {powerOfTwo(255), 0, false}, {maximum(), 0, false},
	} {
		if got, ok := Uint64(c.a); got != c.want || ok != c.ok {
			t.Errorf("Uint64(%v) = %d, %v; want %d, %v", c.a, got, ok, c.want, c.ok)
		}
	}
}

func TestMin(t *testing.T) {
	for _, c := range []struct {
		a    api.Uint256
		l    []api.Uint256
		want api.Uint256
	}{
		{number(5), nil, number(5)},
		{number(5), []api.Uint256{}, number(5)},
		{number(3), []api.Uint256{number(5), number(9)}, number(3)},
		{number(5), []api.Uint256{number(3), number(9)}, number(3)},
		{number(9), []api.Uint256{number(5), number(3)}, number(3)},
		{number(4), []api.Uint256{number(4), number(4)}, number(4)},
		{maximum(), []api.Uint256{maximum()}, maximum()},
		{maximum(), []api.Uint256{powerOfTwo(255), powerOfTwo(128), powerOfTwo(64), number(max64)}, number(max64)},
		{number(1), []api.Uint256{number(0), maximum()}, number(0)},
	} {
		if got := Min(c.a, c.l...); got != c.want {
			t.Errorf("Min(%v, %v) = %v; want %v", c.a, c.l, got, c.want)
		}
	}
}

func TestMinLeavesItsArgumentsAlone(t *testing.T) {
	backing := []api.Uint256{number(9), number(2), number(7), number(1), number(8)}
	original := slices.Clone(backing)
	if got := Min(number(5), backing[:3]...); got != number(2) {
		t.Errorf("Min = %v", got)
	}
	if !slices.Equal(backing, original) {
		t.Errorf("Min changed its arguments to %v", backing)
	}
}

// P1.2

func TestAdd(t *testing.T) {
	runChecked(t, "Add", Add, []checkedCase{
		{number(2), number(3), number(5), api.OK},
		{number(0), number(0), number(0), api.OK},
		{number(1, 2, 3, 4), number(10, 20, 30, 40), number(11, 22, 33, 44), api.OK},
		{number(max64), number(1), powerOfTwo(64), api.OK},
		{number(max64, max64), number(1), powerOfTwo(128), api.OK},
		{number(max64, max64, max64), number(1), powerOfTwo(192), api.OK},
		{number(0, max64), number(0, 1), powerOfTwo(128), api.OK},
		{number(0, 0, max64), number(0, 0, 1), powerOfTwo(192), api.OK},
		{number(max64, max64, max64), number(max64, max64, max64), number(max64-1, max64, max64, 1), api.OK},
		{maximum(), number(0), maximum(), api.OK},
		{number(max64-1, max64, max64, max64), number(1), maximum(), api.OK},
		{powerOfTwo(255), number(max64, max64, max64, 1<<63-1), maximum(), api.OK},
		{powerOfTwo(255), powerOfTwo(255), number(), api.ErrOverflow},
		{number(0, 0, 0, max64), number(7, 0, 0, 1), number(), api.ErrOverflow},
		{maximum(), number(1), number(), api.ErrOverflow},
		{number(1), maximum(), number(), api.ErrOverflow},
		{maximum(), maximum(), number(), api.ErrOverflow},
	})
}

func TestSub(t *testing.T) {
	runChecked(t, "Sub", Sub, []checkedCase{
		{number(5), number(3), number(2), api.OK},
		{number(0), number(0), number(0), api.OK},
		{number(11, 22, 33, 44), number(10, 20, 30, 40), number(1, 2, 3, 4), api.OK},
		{powerOfTwo(64), number(1), number(max64), api.OK},
		{powerOfTwo(128), number(1), number(max64, max64), api.OK},
		{powerOfTwo(192), number(1), number(max64, max64, max64), api.OK},
		{powerOfTwo(128), powerOfTwo(64), number(0, max64), api.OK},
		{powerOfTwo(192), powerOfTwo(128), number(0, 0, max64), api.OK},
		{powerOfTwo(255), number(1), number(max64, max64, max64, 1<<63-1), api.OK},
		{maximum(), maximum(), number(0), api.OK},
		{maximum(), number(0), maximum(), api.OK},
		{number(3), number(5), number(), api.ErrOverflow},
		{number(0), number(1), number(), api.ErrOverflow},
		{number(0), maximum(), number(), api.ErrOverflow},
		{number(max64), powerOfTwo(64), number(), api.ErrOverflow},
		{number(max64, max64, max64), powerOfTwo(192), number(), api.ErrOverflow},
		{number(max64-1, max64, max64, max64), maximum(), number(), api.ErrOverflow},
	})
}

func TestMul(t *testing.T) {
	runChecked(t, "Mul", Mul, []checkedCase{
		{number(7), number(6), number(42), api.OK},
		{number(0), maximum(), number(0), api.OK},
		{number(1), maximum(), maximum(), api.OK},
		{number(max64), number(max64), number(1, max64-1), api.OK},
		{powerOfTwo(64), powerOfTwo(64), powerOfTwo(128), api.OK},
		{powerOfTwo(64), powerOfTwo(128), powerOfTwo(192), api.OK},
		{powerOfTwo(128), powerOfTwo(127), powerOfTwo(255), api.OK},
		{number(max64, max64), number(1, 0, 1), maximum(), api.OK},
		{number(max64), number(1, 1, 1, 1), maximum(), api.OK},
		{number(max64, max64), number(max64, max64), number(1, 0, max64-1, max64), api.OK},
		{powerOfTwo(128), powerOfTwo(128), number(), api.ErrOverflow},
		{powerOfTwo(64), powerOfTwo(192), number(), api.ErrOverflow},
		{powerOfTwo(255), number(2), number(), api.ErrOverflow},
		{powerOfTwo(128), number(1, 0, 1), number(), api.ErrOverflow},
		{maximum(), number(2), number(), api.ErrOverflow},
		{number(2), maximum(), number(), api.ErrOverflow},
		{maximum(), maximum(), number(), api.ErrOverflow},
	})
}

// Every pair of powers of two has a product whose fit depends on the exponents only.
func TestMulOfPowersOfTwo(t *testing.T) {
	for i := range 256 {
		for j := range 256 {
			want, wantCode := api.Uint256{}, api.ErrOverflow
			if i+j < 256 {
				want, wantCode = powerOfTwo(i+j), api.OK
			}
			if got, code := Mul(powerOfTwo(i), powerOfTwo(j)); got != want || code != wantCode {
				t.Fatalf("Mul(2^%d, 2^%d) = %v, %d; want %v, %d", i, j, got, code, want, wantCode)
			}
		}
	}
}

// The largest cofactor of a whose product fits, and the next one, whose product does not.
func TestMulAtTheEdgeOfTheRange(t *testing.T) {
	for _, a := range append(boundaries(), samples()...) {
		if BitLen(a) < 2 {
			continue
		}
		cofactor := new(big.Int).Div(bigLargest, toBig(a))
		want := fromBig(new(big.Int).Mul(cofactor, toBig(a)))
		if got, code := Mul(a, fromBig(cofactor)); got != want || code != api.OK {
			t.Errorf("Mul(%v, %v) = %v, %d; want %v", a, cofactor, got, code, want)
		}
		cofactor.Add(cofactor, bigOne)
		if got, code := Mul(a, fromBig(cofactor)); got != (api.Uint256{}) || code != api.ErrOverflow {
			t.Errorf("Mul(%v, %v) = %v, %d; want ErrOverflow", a, cofactor, got, code)
		}
	}
}

// P1.3

func TestSaturatingAdd(t *testing.T) {
	for _, c := range []struct{ a, b, want api.Uint256 }{
		{number(2), number(3), number(5)},
		{number(0), number(0), number(0)},
		{number(max64), number(1), powerOfTwo(64)},
		{maximum(), number(0), maximum()},
		{maximum(), number(1), maximum()},
		{maximum(), maximum(), maximum()},
		{powerOfTwo(255), powerOfTwo(255), maximum()},
	} {
		if got := SaturatingAdd(c.a, c.b); got != c.want {
			t.Errorf("SaturatingAdd(%v, %v) = %v; want %v", c.a, c.b, got, c.want)
		}
	}
}

func TestSaturatingSub(t *testing.T) {
	for _, c := range []struct{ a, b, want api.Uint256 }{
		{number(5), number(3), number(2)},
		{number(3), number(5), number(0)},
		{number(5), number(5), number(0)},
		{number(0), maximum(), number(0)},
		{powerOfTwo(255), number(1), number(max64, max64, max64, 1<<63-1)},
		{number(max64), powerOfTwo(64), number(0)},
		{maximum(), number(0), maximum()},
	} {
		if got := SaturatingSub(c.a, c.b); got != c.want {
			t.Errorf("SaturatingSub(%v, %v) = %v; want %v", c.a, c.b, got, c.want)
		}
	}
}

func TestSaturatingMul(t *testing.T) {
	for _, c := range []struct{ a, b, want api.Uint256 }{
		{number(7), number(6), number(42)},
		{number(0), maximum(), number(0)},
		{maximum(), number(1), maximum()},
		{maximum(), number(2), maximum()},
		{maximum(), maximum(), maximum()},
		{powerOfTwo(128), powerOfTwo(127), powerOfTwo(255)},
		{powerOfTwo(128), powerOfTwo(128), maximum()},
		{powerOfTwo(64), number(3), number(0, 3)},
	} {
		if got := SaturatingMul(c.a, c.b); got != c.want {
			t.Errorf("SaturatingMul(%v, %v) = %v; want %v", c.a, c.b, got, c.want)
		}
	}
}

// P1.2 and P1.3 over the mathematical integers.

func TestSumsAgainstIntegers(t *testing.T) {
	forEachPair(func(a, b api.Uint256) {
		checkOperation(t, "Add", Add, SaturatingAdd, a, b, new(big.Int).Add(toBig(a), toBig(b)))
	})
}

func TestDifferencesAgainstIntegers(t *testing.T) {
	forEachPair(func(a, b api.Uint256) {
		checkOperation(t, "Sub", Sub, SaturatingSub, a, b, new(big.Int).Sub(toBig(a), toBig(b)))
	})
}

func TestProductsAgainstIntegers(t *testing.T) {
	forEachPair(func(a, b api.Uint256) {
		checkOperation(t, "Mul", Mul, SaturatingMul, a, b, new(big.Int).Mul(toBig(a), toBig(b)))
	})
}

func TestChapterExamples(t *testing.T) {
	if got, code := Sub(FromUint64(3), FromUint64(5)); got != (api.Uint256{}) || code != api.ErrOverflow {
		t.Errorf("Sub(3, 5) = %v, %d", got, code)
	}
	if got := SaturatingSub(FromUint64(3), FromUint64(5)); got != FromUint64(0) {
		t.Errorf("SaturatingSub(3, 5) = %v", got)
	}
	if got := BitLen(FromUint64(256)); got != 9 {
		t.Errorf("BitLen(256) = %d", got)
	}
}
