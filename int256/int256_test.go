package int256

import (
	"encoding/binary"
	"math"
	"math/big"
	"math/rand"
	"slices"
	"testing"

	"pontage/api"
)

const max64 = math.MaxUint64

var (
	bigOne   = big.NewInt(1)
	bigLimit = new(big.Int).Lsh(bigOne, 256)
)

// number returns the integer with the given limbs, the least significant first.
func number(limbs ...uint64) api.Uint256 {
	var n api.Uint256
	copy(n[:], limbs)
	return n
}

func maximum() api.Uint256 { return number(max64, max64, max64, max64) }

// plus and minus write a signed integer by the limbs of its magnitude.
func plus(limbs ...uint64) api.Int256 { return api.Int256{Abs: number(limbs...)} }

func minus(limbs ...uint64) api.Int256 { return api.Int256{Neg: true, Abs: number(limbs...)} }

func greatest() api.Int256 { return api.Int256{Abs: maximum()} }

func least() api.Int256 { return api.Int256{Neg: true, Abs: maximum()} }

// invalid returns the only pair that is not valid: zero with a sign.
func invalid() api.Int256 { return api.Int256{Neg: true} }

// unsignedToBig, toBig, unsignedFromBig and fromBig convert without any call of
// the project's arithmetic.
func unsignedToBig(a api.Uint256) *big.Int {
	n := new(big.Int)
	for _, limb := range slices.Backward(a[:]) {
		n.Lsh(n, 64).Or(n, new(big.Int).SetUint64(limb))
	}
	return n
}

func toBig(a api.Int256) *big.Int {
	n := unsignedToBig(a.Abs)
	if a.Neg {
		n.Neg(n)
	}
	return n
}

func unsignedFromBig(n *big.Int) api.Uint256 {
	var a api.Uint256
	data := n.FillBytes(make([]byte, 32))
	for i := range a {
		a[i] = binary.BigEndian.Uint64(data[24-8*i:])
	}
	return a
}

func fromBig(n *big.Int) api.Int256 {
	return api.Int256{Neg: n.Sign() < 0, Abs: unsignedFromBig(n)}
}

func magnitudeFits(n *big.Int) bool { return n.CmpAbs(bigLimit) < 0 }

// magnitudes returns the boundary values with their neighbours, and pseudorandom
// values of all bit lengths, the same ones in every run.
func magnitudes() []api.Uint256 {
	values := []api.Uint256{
		number(0), number(1), number(2), number(3), number(7), number(10), number(1<<63 - 1), number(1 << 63), number(1<<63 + 1),
		number(max64 - 1), number(max64), number(0, max64), number(max64, 0, max64), number(0, max64, max64, max64),
		number(max64, max64, max64, 1<<63-1), number(max64-1, max64, max64, max64), maximum(),
	}
	for _, exponent := range []uint{64, 127, 128, 129, 192, 255} {
		power := new(big.Int).Lsh(bigOne, exponent)
		values = append(values, unsignedFromBig(power), unsignedFromBig(new(big.Int).Sub(power, bigOne)), unsignedFromBig(new(big.Int).Add(power, bigOne)))
	}
	source := rand.New(rand.NewSource(3))
	for length := 2; length <= 256; length += 2 {
		limit := new(big.Int).Lsh(bigOne, uint(length))
		values = append(values, unsignedFromBig(new(big.Int).Rand(source, limit)))
	}
	return values
}

// integers returns the magnitudes with both signs, and zero once.
func integers() []api.Int256 {
	var values []api.Int256
	for _, abs := range magnitudes() {
		values = append(values, api.Int256{Abs: abs})
		if abs != (api.Uint256{}) {
			values = append(values, api.Int256{Neg: true, Abs: abs})
		}
	}
	return values
}

type operation func(a, b api.Int256) (api.Int256, api.Errno)

type operationCase struct {
	a, b, want api.Int256
	code       api.Errno
}

func runOperation(t *testing.T, name string, call operation, cases []operationCase) {
	t.Helper()
	for _, c := range cases {
		if got, code := call(c.a, c.b); got != c.want || code != c.code {
			t.Errorf("%s(%v, %v) = %v, %d; want %v, %d", name, c.a, c.b, got, code, c.want, c.code)
		}
	}
}

// compareOperation compares an operation with the one over the mathematical
// integers, for all pairs. Both results, the ones that fit and the ones that do
// not, must occur, or the pairs would test nothing of one of them.
func compareOperation(t *testing.T, name string, call operation, exact func(z, x, y *big.Int) *big.Int) {
	t.Helper()
	occurred := map[api.Errno]bool{}
	values := integers()
	for _, a := range values {
		for _, b := range values {
			want, wantCode := api.Int256{}, api.ErrOverflow
			if n := exact(new(big.Int), toBig(a), toBig(b)); magnitudeFits(n) {
				want, wantCode = fromBig(n), api.OK
			}
			occurred[wantCode] = true
			if got, code := call(a, b); got != want || code != wantCode {
				t.Fatalf("%s(%v, %v) = %v, %d; want %v, %d", name, a, b, got, code, want, wantCode)
			}
		}
	}
	if !occurred[api.OK] || !occurred[api.ErrOverflow] {
		t.Errorf("%s: the pairs have only results of one kind: %v", name, occurred)
	}
}

// rejectInvalidArguments checks an operation with an argument that is not valid
// at each place, beside arguments for which the result would be zero, would fit
// or would overflow.
func rejectInvalidArguments(t *testing.T, name string, call operation) {
	t.Helper()
	for _, other := range append(integers(), invalid()) {
		for _, pair := range [][2]api.Int256{{invalid(), other}, {other, invalid()}} {
			if got, code := call(pair[0], pair[1]); got != (api.Int256{}) || code != api.ErrInvalidArgument {
				t.Fatalf("%s(%v, %v) = %v, %d; want ErrInvalidArgument", name, pair[0], pair[1], got, code)
			}
		}
	}
}

// P3.1

func TestValid(t *testing.T) {
	for _, a := range integers() {
		if !Valid(a) {
			t.Errorf("Valid(%v) = false", a)
		}
	}
	for i := range 4 {
		a := invalid()
		a.Abs[i] = 1
		if !Valid(a) {
			t.Errorf("Valid(%v) = false", a)
		}
	}
	if Valid(invalid()) {
		t.Error("Valid(-0) = true")
	}
}

func TestFromInt64(t *testing.T) {
	for _, c := range []struct {
		n    int64
		want api.Int256
	}{
		{0, plus(0)},
		{1, plus(1)},
		{-1, minus(1)},
		{2, plus(2)},
		{-2, minus(2)},
		{1000000007, plus(1000000007)},
		{-1000000007, minus(1000000007)},
		{math.MaxInt32 + 1, plus(1 << 31)},
		{math.MinInt32, minus(1 << 31)},
		{math.MaxInt64 - 1, plus(1<<63 - 2)},
		{math.MaxInt64, plus(1<<63 - 1)},
		{-math.MaxInt64, minus(1<<63 - 1)},
		{math.MinInt64, minus(1 << 63)},
	} {
		if got := FromInt64(c.n); got != c.want {
			t.Errorf("FromInt64(%d) = %v; want %v", c.n, got, c.want)
		}
	}
}

func TestNew(t *testing.T) {
	for _, abs := range magnitudes() {
		for _, neg := range []bool{false, true} {
			want := unsignedToBig(abs)
			if neg {
				want.Neg(want)
			}
			if got := New(neg, abs); got != fromBig(want) || !Valid(got) {
				t.Errorf("New(%v, %v) = %v; want %v", neg, abs, got, fromBig(want))
			}
		}
	}
	if got := New(true, number(0)); got != plus(0) {
		t.Errorf("New(true, 0) = %v", got)
	}
}

func TestNeg(t *testing.T) {
	for _, c := range []struct {
		a, want api.Int256
		code    api.Errno
	}{
		{plus(0), plus(0), api.OK},
		{plus(1), minus(1), api.OK},
		{minus(1), plus(1), api.OK},
		{plus(0, 0, 0, 1<<63), minus(0, 0, 0, 1<<63), api.OK},
		{greatest(), least(), api.OK},
		{least(), greatest(), api.OK},
		{invalid(), plus(0), api.ErrInvalidArgument},
	} {
		if got, code := Neg(c.a); got != c.want || code != c.code {
			t.Errorf("Neg(%v) = %v, %d; want %v, %d", c.a, got, code, c.want, c.code)
		}
	}
	for _, a := range integers() {
		want := fromBig(new(big.Int).Neg(toBig(a)))
		if got, code := Neg(a); got != want || code != api.OK {
			t.Errorf("Neg(%v) = %v, %d; want %v", a, got, code, want)
		}
	}
}

func TestCmp(t *testing.T) {
	for _, c := range []struct {
		a, b api.Int256
		want int
	}{
		{plus(0), plus(0), 0},
		{plus(3), plus(5), -1},
		{minus(3), minus(5), 1},
		{minus(5), plus(3), -1},
		{minus(3), plus(5), -1},
		{minus(4), plus(4), -1},
		{minus(4), minus(4), 0},
		{minus(1), plus(0), -1},
		{plus(1), plus(0), 1},
		{minus(0, 1), minus(max64), -1},
		{least(), greatest(), -1},
		{least(), minus(max64-1, max64, max64, max64), -1},
		{greatest(), plus(max64-1, max64, max64, max64), 1},
	} {
		if got := Cmp(c.a, c.b); got != c.want {
			t.Errorf("Cmp(%v, %v) = %d; want %d", c.a, c.b, got, c.want)
		}
		if got := Cmp(c.b, c.a); got != -c.want {
			t.Errorf("Cmp(%v, %v) = %d; want %d", c.b, c.a, got, -c.want)
		}
	}
	values := integers()
	for _, a := range values {
		for _, b := range values {
			if got, want := Cmp(a, b), toBig(a).Cmp(toBig(b)); got != want {
				t.Fatalf("Cmp(%v, %v) = %d; want %d", a, b, got, want)
			}
		}
	}
}

func TestCmpOfInvalidArguments(t *testing.T) {
	for _, other := range append(integers(), invalid()) {
		if got := Cmp(invalid(), other); got != 0 {
			t.Errorf("Cmp(-0, %v) = %d", other, got)
		}
		if got := Cmp(other, invalid()); got != 0 {
			t.Errorf("Cmp(%v, -0) = %d", other, got)
		}
	}
}

// P3.2

func TestAdd(t *testing.T) {
	runOperation(t, "Add", Add, []operationCase{
		{plus(40), plus(2), plus(42), api.OK},
		{plus(5), minus(7), minus(2), api.OK},
		{minus(5), plus(7), plus(2), api.OK},
		{plus(7), minus(5), plus(2), api.OK},
		{minus(7), plus(5), minus(2), api.OK},
		{minus(5), minus(7), minus(12), api.OK},
		{plus(5), minus(5), plus(0), api.OK},
		{minus(5), plus(5), plus(0), api.OK},
		{plus(0), plus(0), plus(0), api.OK},
		{plus(0), minus(1), minus(1), api.OK},
		{plus(max64), plus(1), plus(0, 1), api.OK},
		{minus(0, 1), plus(1), minus(max64), api.OK},
		{greatest(), least(), plus(0), api.OK},
		{greatest(), plus(0), greatest(), api.OK},
		{least(), plus(0), least(), api.OK},
		{plus(max64-1, max64, max64, max64), plus(1), greatest(), api.OK},
		{minus(max64-1, max64, max64, max64), minus(1), least(), api.OK},
		{greatest(), plus(1), plus(0), api.ErrOverflow},
		{least(), minus(1), plus(0), api.ErrOverflow},
		{plus(0, 0, 0, 1<<63), plus(0, 0, 0, 1<<63), plus(0), api.ErrOverflow},
		{minus(0, 0, 0, 1<<63), minus(0, 0, 0, 1<<63), plus(0), api.ErrOverflow},
		{greatest(), greatest(), plus(0), api.ErrOverflow},
		{least(), least(), plus(0), api.ErrOverflow},
	})
	compareOperation(t, "Add", Add, (*big.Int).Add)
	rejectInvalidArguments(t, "Add", Add)
}

func TestSub(t *testing.T) {
	runOperation(t, "Sub", Sub, []operationCase{
		{plus(5), plus(3), plus(2), api.OK},
		{plus(3), plus(5), minus(2), api.OK},
		{minus(3), minus(5), plus(2), api.OK},
		{minus(3), plus(5), minus(8), api.OK},
		{plus(3), minus(5), plus(8), api.OK},
		{plus(5), plus(5), plus(0), api.OK},
		{minus(5), minus(5), plus(0), api.OK},
		{plus(0), plus(0), plus(0), api.OK},
		{plus(0), plus(1), minus(1), api.OK},
		{plus(0), greatest(), least(), api.OK},
		{plus(0), least(), greatest(), api.OK},
		{greatest(), greatest(), plus(0), api.OK},
		{least(), least(), plus(0), api.OK},
		{minus(max64-1, max64, max64, max64), plus(1), least(), api.OK},
		{plus(max64-1, max64, max64, max64), minus(1), greatest(), api.OK},
		{least(), plus(1), plus(0), api.ErrOverflow},
		{greatest(), minus(1), plus(0), api.ErrOverflow},
		{greatest(), least(), plus(0), api.ErrOverflow},
		{least(), greatest(), plus(0), api.ErrOverflow},
	})
	compareOperation(t, "Sub", Sub, (*big.Int).Sub)
	rejectInvalidArguments(t, "Sub", Sub)
}

func TestMul(t *testing.T) {
	runOperation(t, "Mul", Mul, []operationCase{
		{plus(6), plus(7), plus(42), api.OK},
		{minus(6), plus(7), minus(42), api.OK},
		{plus(6), minus(7), minus(42), api.OK},
		{minus(6), minus(7), plus(42), api.OK},
		{plus(0), minus(7), plus(0), api.OK},
		{minus(7), plus(0), plus(0), api.OK},
		{least(), plus(0), plus(0), api.OK},
		{greatest(), minus(1), least(), api.OK},
		{least(), minus(1), greatest(), api.OK},
		{minus(0, 1), plus(0, 0, 1), minus(0, 0, 0, 1), api.OK},
		{minus(0, 0, 0, 1<<62), plus(2), minus(0, 0, 0, 1<<63), api.OK},
		{minus(max64, max64), plus(1, 0, 1), least(), api.OK},
		{minus(0, 0, 1), plus(0, 0, 1), plus(0), api.ErrOverflow},
		{minus(0, 0, 0, 1<<63), plus(2), plus(0), api.ErrOverflow},
		{minus(0, 0, 0, 1<<63), minus(2), plus(0), api.ErrOverflow},
		{plus(0, 0, 0, 1<<63), plus(2), plus(0), api.ErrOverflow},
		{greatest(), least(), plus(0), api.ErrOverflow},
	})
	compareOperation(t, "Mul", Mul, (*big.Int).Mul)
	rejectInvalidArguments(t, "Mul", Mul)
}

func TestDivFloor(t *testing.T) {
	for _, c := range []struct {
		a    api.Int256
		d    api.Uint256
		want api.Int256
		code api.Errno
	}{
		{plus(7), number(2), plus(3), api.OK},
		{plus(8), number(2), plus(4), api.OK},
		{minus(7), number(2), minus(4), api.OK},
		{minus(8), number(2), minus(4), api.OK},
		{minus(9), number(2), minus(5), api.OK},
		{minus(1), number(2), minus(1), api.OK},
		{plus(1), number(2), plus(0), api.OK},
		{plus(0), number(2), plus(0), api.OK},
		{plus(0), maximum(), plus(0), api.OK},
		{minus(1), maximum(), minus(1), api.OK},
		{plus(1), maximum(), plus(0), api.OK},
		{minus(max64-1, max64, max64, max64), maximum(), minus(1), api.OK},
		{least(), maximum(), minus(1), api.OK},
		{greatest(), maximum(), plus(1), api.OK},
		{least(), number(1), least(), api.OK},
		{greatest(), number(1), greatest(), api.OK},
		{least(), number(2), minus(0, 0, 0, 1<<63), api.OK},
		{greatest(), number(2), plus(max64, max64, max64, 1<<63-1), api.OK},
		{minus(1, 1), number(0, 1), minus(2), api.OK},
		{minus(0, 1), number(0, 1), minus(1), api.OK},
		{minus(0, 0, 0, 1<<63), number(max64, max64, max64, 1<<63-1), minus(2), api.OK},
		{plus(7), number(0), plus(0), api.ErrDivisionByZero},
		{minus(7), number(0), plus(0), api.ErrDivisionByZero},
		{plus(0), number(0), plus(0), api.ErrDivisionByZero},
		{least(), number(0), plus(0), api.ErrDivisionByZero},
		{invalid(), number(0), plus(0), api.ErrInvalidArgument},
		{invalid(), number(1), plus(0), api.ErrInvalidArgument},
		{invalid(), maximum(), plus(0), api.ErrInvalidArgument},
	} {
		if got, code := DivFloor(c.a, c.d); got != c.want || code != c.code {
			t.Errorf("DivFloor(%v, %v) = %v, %d; want %v, %d", c.a, c.d, got, code, c.want, c.code)
		}
	}
}

// For a positive divisor the Euclidean division of math/big rounds toward
// negative infinity.
func TestDivFloorAgainstIntegers(t *testing.T) {
	values, divisors := integers(), magnitudes()
	for _, a := range values {
		for _, d := range divisors {
			want, wantCode := api.Int256{}, api.ErrDivisionByZero
			if d != (api.Uint256{}) {
				want, wantCode = fromBig(new(big.Int).Div(toBig(a), unsignedToBig(d))), api.OK
			}
			if got, code := DivFloor(a, d); got != want || code != wantCode {
				t.Fatalf("DivFloor(%v, %v) = %v, %d; want %v, %d", a, d, got, code, want, wantCode)
			}
		}
	}
}

// P3.3

func TestDiff(t *testing.T) {
	for _, c := range []struct {
		a, b api.Uint256
		want api.Int256
	}{
		{number(5), number(3), plus(2)},
		{number(3), number(5), minus(2)},
		{number(5), number(5), plus(0)},
		{number(0), number(0), plus(0)},
		{number(0), number(1), minus(1)},
		{number(max64), number(0, 1), minus(1)},
		{number(0, 1), number(max64), plus(1)},
		{maximum(), maximum(), plus(0)},
		{maximum(), number(0), greatest()},
		{number(0), maximum(), least()},
		{number(0), number(0, 0, 0, 1<<63), minus(0, 0, 0, 1<<63)},
	} {
		if got := Diff(c.a, c.b); got != c.want {
			t.Errorf("Diff(%v, %v) = %v; want %v", c.a, c.b, got, c.want)
		}
	}
	values := magnitudes()
	for _, a := range values {
		for _, b := range values {
			want := fromBig(new(big.Int).Sub(unsignedToBig(a), unsignedToBig(b)))
			if got := Diff(a, b); got != want || !Valid(got) {
				t.Fatalf("Diff(%v, %v) = %v; want %v", a, b, got, want)
			}
		}
	}
}

func TestAddClamped(t *testing.T) {
	for _, c := range []struct {
		a    api.Uint256
		b    api.Int256
		want api.Uint256
		code api.Errno
	}{
		{number(3), plus(5), number(8), api.OK},
		{number(5), minus(3), number(2), api.OK},
		{number(5), minus(4), number(1), api.OK},
		{number(5), minus(5), number(0), api.OK},
		{number(5), minus(6), number(0), api.OK},
		{number(3), minus(5), number(0), api.OK},
		{number(0), minus(1), number(0), api.OK},
		{number(0), plus(0), number(0), api.OK},
		{number(0), least(), number(0), api.OK},
		{number(0), greatest(), maximum(), api.OK},
		{number(max64, max64), least(), number(0), api.OK},
		{maximum(), least(), number(0), api.OK},
		{maximum(), plus(0), maximum(), api.OK},
		{maximum(), minus(1), number(max64-1, max64, max64, max64), api.OK},
		{number(max64-1, max64, max64, max64), plus(1), maximum(), api.OK},
		{maximum(), plus(1), number(0), api.ErrOverflow},
		{number(1), greatest(), number(0), api.ErrOverflow},
		{maximum(), greatest(), number(0), api.ErrOverflow},
		{number(0, 0, 0, 1<<63), plus(0, 0, 0, 1<<63), number(0), api.ErrOverflow},
		{number(0), invalid(), number(0), api.ErrInvalidArgument},
		{number(3), invalid(), number(0), api.ErrInvalidArgument},
		{maximum(), invalid(), number(0), api.ErrInvalidArgument},
	} {
		if got, code := AddClamped(c.a, c.b); got != c.want || code != c.code {
			t.Errorf("AddClamped(%v, %v) = %v, %d; want %v, %d", c.a, c.b, got, code, c.want, c.code)
		}
	}
}

func TestAddClampedAgainstIntegers(t *testing.T) {
	amounts, changes := magnitudes(), integers()
	for _, a := range amounts {
		for _, b := range changes {
			sum := new(big.Int).Add(unsignedToBig(a), toBig(b))
			want, wantCode := api.Uint256{}, api.OK
			switch {
			case !magnitudeFits(sum):
				wantCode = api.ErrOverflow
			case sum.Sign() > 0:
				want = unsignedFromBig(sum)
			}
			if got, code := AddClamped(a, b); got != want || code != wantCode {
				t.Fatalf("AddClamped(%v, %v) = %v, %d; want %v, %d", a, b, got, code, want, wantCode)
			}
		}
	}
}

func TestChapterExamples(t *testing.T) {
	if got, code := DivFloor(minus(7), number(2)); got != minus(4) || code != api.OK {
		t.Errorf("DivFloor(-7, 2) = %v, %d", got, code)
	}
	if got, code := AddClamped(number(3), minus(5)); got != number(0) || code != api.OK {
		t.Errorf("AddClamped(3, -5) = %v, %d", got, code)
	}
	if Valid(api.Int256{Neg: true}) {
		t.Error("Valid(Int256{Neg: true}) = true")
	}
}
