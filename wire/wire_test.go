package wire

import (
	"bytes"
	"encoding/binary"
	"math"
	"math/big"
	"math/rand"
	"slices"
	"sync"
	"testing"

	"pontage/api"
)

const max64 = math.MaxUint64

// number returns the integer with the given limbs, the least significant first.
func number(limbs ...uint64) api.Uint256 {
	var n api.Uint256
	copy(n[:], limbs)
	return n
}

func maximum() api.Uint256 { return number(max64, max64, max64, max64) }

func minus(limbs ...uint64) api.Int256 { return api.Int256{Neg: true, Abs: number(limbs...)} }

func plus(limbs ...uint64) api.Int256 { return api.Int256{Abs: number(limbs...)} }

// join returns the bytes of all parts in a new slice.
func join(parts ...[]byte) []byte { return bytes.Join(parts, nil) }

// run returns count times the byte value.
func run(value byte, count int) []byte { return bytes.Repeat([]byte{value}, count) }

// fromBig converts without any call of the project's code.
func fromBig(n *big.Int) api.Uint256 {
	var a api.Uint256
	data := n.FillBytes(make([]byte, 32))
	for i := range a {
		a[i] = binary.BigEndian.Uint64(data[24-8*i:])
	}
	return a
}

// encodingOf is the specified encoding of a number.
func encodingOf(n *big.Int) []byte {
	significant := n.Bytes()
	return join([]byte{byte(len(significant))}, significant)
}

// integers returns numbers from 0 to 2^256 - 1: the powers of two with their
// neighbours, each byte value in each place, and pseudorandom numbers of all bit
// lengths, the same ones in every run.
func integers() []*big.Int {
	one := big.NewInt(1)
	values := []*big.Int{new(big.Int)}
	for exponent := range uint(256) {
		power := new(big.Int).Lsh(one, exponent)
		values = append(values, power, new(big.Int).Sub(power, one), new(big.Int).Add(power, one))
	}
	for place := range uint(32) {
		for digit := int64(1); digit < 256; digit++ {
			values = append(values, new(big.Int).Lsh(big.NewInt(digit), 8*place))
		}
	}
	source := rand.New(rand.NewSource(6))
	for length := range uint(257) {
		values = append(values, new(big.Int).Rand(source, new(big.Int).Lsh(one, length)))
	}
	limit := new(big.Int).Lsh(one, 256)
	return append(values, limit.Sub(limit, one))
}

// surroundings returns byte strings that are put before and after an encoding.
func surroundings() [][]byte {
	return [][]byte{nil, {0}, {1}, {32}, {33}, {255}, {0, 0, 0}, {1, 2, 3, 4, 5}, run(0, 40), run(255, 40)}
}

// byteStrings returns byte strings with lengths around the sizes at which the
// encoding of the length grows, with pseudorandom bytes.
func byteStrings() [][]byte {
	source := rand.New(rand.NewSource(66))
	var l [][]byte
	for _, length := range []int{0, 1, 2, 31, 32, 33, 127, 128, 255, 256, 257, 4096, 65535, 65536, 70000} {
		x := make([]byte, length)
		source.Read(x)
		l = append(l, x)
	}
	return append(l, []byte{0}, []byte{1, 0}, run(0, 300))
}

func expectBytes(t *testing.T, name string, got, want []byte) {
	t.Helper()
	if !slices.Equal(got, want) {
		t.Errorf("%s: %v, want %v", name, got, want)
	}
}

func expectRead256(t *testing.T, b []byte, at int, want api.Uint256, next int, code api.Errno) {
	t.Helper()
	if n, to, e := ReadUint256(b, at); n != want || to != next || e != code {
		t.Errorf("ReadUint256(%v, %d): %v, %d, %d, want %v, %d, %d", b, at, n, to, e, want, next, code)
	}
}

func expectRead64(t *testing.T, b []byte, at int, want uint64, next int, code api.Errno) {
	t.Helper()
	if n, to, e := ReadUint64(b, at); n != want || to != next || e != code {
		t.Errorf("ReadUint64(%v, %d): %v, %d, %d, want %v, %d, %d", b, at, n, to, e, want, next, code)
	}
}

func expectReadBytes(t *testing.T, b []byte, at int, want []byte, next int, code api.Errno) {
	t.Helper()
	if x, to, e := ReadBytes(b, at); !slices.Equal(x, want) || to != next || e != code {
		t.Errorf("ReadBytes(%v, %d): %v, %d, %d, want %v, %d, %d", b, at, x, to, e, want, next, code)
	}
}

func expectReadInt(t *testing.T, b []byte, at int, want api.Int256, next int, code api.Errno) {
	t.Helper()
	if a, to, e := ReadInt256(b, at); a != want || to != next || e != code {
		t.Errorf("ReadInt256(%v, %d): %v, %d, %d, want %v, %d, %d", b, at, a, to, e, want, next, code)
	}
}

// expectNoNumber checks that both functions that read a number return code.
func expectNoNumber(t *testing.T, b []byte, at int, code api.Errno) {
	t.Helper()
	expectRead256(t, b, at, number(), 0, code)
	expectRead64(t, b, at, 0, 0, code)
}

// expectNothing checks that all four Read functions return code.
func expectNothing(t *testing.T, b []byte, at int, code api.Errno) {
	t.Helper()
	expectNoNumber(t, b, at, code)
	expectReadBytes(t, b, at, nil, 0, code)
	expectReadInt(t, b, at, plus(), 0, code)
}

// P6.1

func TestAppendUint256(t *testing.T) {
	for _, c := range []struct {
		b    []byte
		n    api.Uint256
		want []byte
	}{
		{nil, number(), []byte{0}},
		{[]byte{}, number(), []byte{0}},
		{[]byte{9, 8}, number(), []byte{9, 8, 0}},
		{nil, number(1), []byte{1, 1}},
		{nil, number(255), []byte{1, 255}},
		{nil, number(256), []byte{2, 1, 0}},
		{[]byte{2}, number(258), []byte{2, 2, 1, 2}},
		{nil, number(0x0102030405060708), []byte{8, 1, 2, 3, 4, 5, 6, 7, 8}},
		{nil, number(max64), join([]byte{8}, run(255, 8))},
		{nil, number(0, 1), join([]byte{9, 1}, run(0, 8))},
		{nil, number(0x0b0c, 0x0a), []byte{9, 10, 0, 0, 0, 0, 0, 0, 11, 12}},
		{nil, number(4, 3, 2, 1), join([]byte{25, 1}, run(0, 7), []byte{2}, run(0, 7), []byte{3}, run(0, 7), []byte{4})},
		{[]byte{7}, maximum(), join([]byte{7, 32}, run(255, 32))},
	} {
		expectBytes(t, "AppendUint256", AppendUint256(c.b, c.n), c.want)
	}
}

func TestAppendUint64(t *testing.T) {
	for _, c := range []struct {
		b    []byte
		n    uint64
		want []byte
	}{
		{nil, 0, []byte{0}},
		{[]byte{5}, 0, []byte{5, 0}},
		{nil, 1, []byte{1, 1}},
		{nil, 255, []byte{1, 255}},
		{[]byte{1, 2, 3}, 65536, []byte{1, 2, 3, 3, 1, 0, 0}},
		{nil, 1 << 63, join([]byte{8, 128}, run(0, 7))},
		{nil, max64, join([]byte{8}, run(255, 8))},
	} {
		expectBytes(t, "AppendUint64", AppendUint64(c.b, c.n), c.want)
	}
}

func TestAppendBytes(t *testing.T) {
	for _, c := range []struct{ b, x, want []byte }{
		{nil, nil, []byte{0}},
		{[]byte{4}, []byte{}, []byte{4, 0}},
		{nil, []byte{0}, []byte{1, 1, 0}},
		{[]byte{3}, []byte{7, 8}, []byte{3, 1, 2, 7, 8}},
		{nil, run(6, 255), join([]byte{1, 255}, run(6, 255))},
		{nil, run(6, 256), join([]byte{2, 1, 0}, run(6, 256))},
		{[]byte{1}, run(0, 65536), join([]byte{1, 3, 1, 0, 0}, run(0, 65536))},
	} {
		expectBytes(t, "AppendBytes", AppendBytes(c.b, c.x), c.want)
	}
	shared := []byte{1, 2, 3}
	expectBytes(t, "AppendBytes of a slice to itself", AppendBytes(shared, shared), []byte{1, 2, 3, 1, 3, 1, 2, 3})
}

func TestAppendInt256(t *testing.T) {
	for _, c := range []struct {
		b    []byte
		a    api.Int256
		want []byte
	}{
		{nil, plus(), []byte{0, 0}},
		{[]byte{7}, plus(5), []byte{7, 0, 1, 5}},
		{[]byte{7}, minus(5), []byte{7, 1, 1, 5}},
		{nil, minus(0, 1), join([]byte{1, 9, 1}, run(0, 8))},
		{nil, api.Int256{Abs: maximum()}, join([]byte{0, 32}, run(255, 32))},
		{nil, api.Int256{Neg: true, Abs: maximum()}, join([]byte{1, 32}, run(255, 32))},
	} {
		expectBytes(t, "AppendInt256", AppendInt256(c.b, c.a), c.want)
	}
}

func TestAppendOfInvalidInteger(t *testing.T) {
	for _, b := range surroundings() {
		expectBytes(t, "AppendInt256 of a negative zero", AppendInt256(b, api.Int256{Neg: true}), b)
	}
	b := []byte{1, 2, 3}
	AppendInt256(b, api.Int256{Neg: true})[0] = 9
	expectBytes(t, "the argument", b, []byte{1, 2, 3})
}

func TestAppendAgainstIntegers(t *testing.T) {
	for _, n := range integers() {
		want := encodingOf(n)
		expectBytes(t, "AppendUint256", AppendUint256(nil, fromBig(n)), want)
		expectBytes(t, "AppendInt256", AppendInt256(nil, api.Int256{Abs: fromBig(n)}), join([]byte{0}, want))
		if n.IsUint64() {
			expectBytes(t, "AppendUint64", AppendUint64(nil, n.Uint64()), want)
		}
		if n.Sign() > 0 {
			expectBytes(t, "AppendInt256", AppendInt256(nil, api.Int256{Neg: true, Abs: fromBig(n)}), join([]byte{1}, want))
		}
	}
}

// appenders returns one call of each Append function, and of each of its cases,
// as a function of the slice that is appended to.
func appenders() []func(b []byte) []byte {
	return []func(b []byte) []byte{
		func(b []byte) []byte { return AppendUint256(b, number()) },
		func(b []byte) []byte { return AppendUint256(b, maximum()) },
		func(b []byte) []byte { return AppendUint64(b, 0) },
		func(b []byte) []byte { return AppendUint64(b, max64) },
		func(b []byte) []byte { return AppendBytes(b, nil) },
		func(b []byte) []byte { return AppendBytes(b, []byte{5, 6, 7}) },
		func(b []byte) []byte { return AppendInt256(b, plus()) },
		func(b []byte) []byte { return AppendInt256(b, minus(77)) },
		func(b []byte) []byte { return AppendInt256(b, api.Int256{Neg: true}) },
	}
}

// The result is a new slice even where the argument has room for the encoding.
func TestAppendSharesNoMemory(t *testing.T) {
	for i, call := range appenders() {
		for _, length := range []int{0, 1, 4} {
			whole := run(3, 100)
			result := call(whole[:length])
			other := call(whole[:length])
			for k := range result {
				result[k] = 200
			}
			// The capacity of a result must not be memory of the argument either.
			_ = append(result, 201, 202)
			expectBytes(t, "the argument and its capacity", whole, run(3, 100))
			if !slices.Equal(other, call(run(3, length))) {
				t.Errorf("case %d: two results share memory", i)
			}
		}
	}
}

func TestAppendBytesLeavesTheByteStringAlone(t *testing.T) {
	whole := run(4, 50)
	result := AppendBytes([]byte{1}, whole[:10])
	for k := range result {
		result[k] = 9
	}
	expectBytes(t, "the byte string and its capacity", whole, run(4, 50))
}

// P6.2

func TestReadUint256(t *testing.T) {
	expectRead256(t, []byte{0}, 0, number(), 1, api.OK)
	expectRead256(t, []byte{0, 0}, 1, number(), 2, api.OK)
	expectRead256(t, []byte{1, 1}, 0, number(1), 2, api.OK)
	expectRead256(t, []byte{2, 1, 2}, 0, number(258), 3, api.OK)
	expectRead256(t, []byte{2, 1, 0}, 0, number(256), 3, api.OK)
	expectRead256(t, []byte{9, 9, 1, 5, 9}, 2, number(5), 4, api.OK)
	expectRead256(t, []byte{8, 1, 2, 3, 4, 5, 6, 7, 8}, 0, number(0x0102030405060708), 9, api.OK)
	expectRead256(t, []byte{9, 10, 0, 0, 0, 0, 0, 0, 11, 12}, 0, number(0x0b0c, 10), 10, api.OK)
	expectRead256(t, join([]byte{32}, run(255, 32)), 0, maximum(), 33, api.OK)
	expectRead256(t, join([]byte{32, 1}, run(0, 31)), 0, number(0, 0, 0, 1<<56), 33, api.OK)
}

func TestReadUint64(t *testing.T) {
	expectRead64(t, []byte{0}, 0, 0, 1, api.OK)
	expectRead64(t, []byte{1, 255}, 0, 255, 2, api.OK)
	expectRead64(t, []byte{9, 2, 1, 0, 9}, 1, 256, 4, api.OK)
	expectRead64(t, join([]byte{8}, run(255, 8)), 0, max64, 9, api.OK)
	expectRead64(t, join([]byte{8, 128}, run(0, 7)), 0, 1<<63, 9, api.OK)
}

func TestReadUint64OfGreaterNumbers(t *testing.T) {
	for count := 9; count <= 32; count++ {
		b := join([]byte{byte(count), 1}, run(0, count-1))
		expectRead64(t, b, 0, 0, 0, api.ErrMalformed)
		if _, next, code := ReadUint256(b, 0); next != len(b) || code != api.OK {
			t.Errorf("ReadUint256 of %d bytes: %d, %d", count, next, code)
		}
	}
}

func TestReadBytes(t *testing.T) {
	expectReadBytes(t, []byte{0}, 0, nil, 1, api.OK)
	expectReadBytes(t, []byte{0, 5}, 0, nil, 1, api.OK)
	expectReadBytes(t, []byte{1, 2, 7, 8}, 0, []byte{7, 8}, 4, api.OK)
	expectReadBytes(t, []byte{1, 2, 0, 0}, 0, []byte{0, 0}, 4, api.OK)
	expectReadBytes(t, []byte{3, 1, 1, 9, 4}, 1, []byte{9}, 4, api.OK)
	expectReadBytes(t, join([]byte{2, 1, 0}, run(3, 257)), 0, run(3, 256), 259, api.OK)
}

func TestReadBytesOfWrongLengths(t *testing.T) {
	for _, b := range [][]byte{
		{1, 1}, {1, 3, 7, 8}, {1, 255}, {2, 1, 0, 1}, {1, 0}, {2, 0, 1, 7},
		{4, 128, 0, 0, 0, 1}, {4, 255, 255, 255, 255, 1}, {5, 1, 0, 0, 0, 0, 1},
		{8, 127, 255, 255, 255, 255, 255, 255, 255, 1}, {8, 128, 0, 0, 0, 0, 0, 0, 0, 1},
		// A length that would wrap to the number of bytes that follow it.
		{8, 255, 255, 255, 255, 255, 255, 255, 255, 1}, {9, 1, 0, 0, 0, 0, 0, 0, 0, 1, 7},
		join([]byte{32, 1}, run(0, 30), []byte{1, 7}), {33, 1},
	} {
		expectReadBytes(t, b, 0, nil, 0, api.ErrMalformed)
	}
}

func TestReadBytesSharesNoMemory(t *testing.T) {
	b := []byte{1, 2, 7, 8, 9}
	x, _, _ := ReadBytes(b, 0)
	y, _, _ := ReadBytes(b, 0)
	x[0], x[1] = 100, 101
	_ = append(x, 102)
	expectBytes(t, "the argument", b, []byte{1, 2, 7, 8, 9})
	expectBytes(t, "another result", y, []byte{7, 8})
	whole := []byte{0, 5, 6}
	empty, _, _ := ReadBytes(whole, 0)
	_ = append(empty, 9)
	expectBytes(t, "the argument", whole, []byte{0, 5, 6})
}

func TestReadInt256(t *testing.T) {
	expectReadInt(t, []byte{0, 0}, 0, plus(), 2, api.OK)
	expectReadInt(t, []byte{0, 1, 5}, 0, plus(5), 3, api.OK)
	expectReadInt(t, []byte{1, 1, 5}, 0, minus(5), 3, api.OK)
	expectReadInt(t, []byte{9, 9, 1, 2, 1, 0, 9}, 2, minus(256), 6, api.OK)
	expectReadInt(t, join([]byte{0, 32}, run(255, 32)), 0, api.Int256{Abs: maximum()}, 34, api.OK)
	expectReadInt(t, join([]byte{1, 32}, run(255, 32)), 0, api.Int256{Neg: true, Abs: maximum()}, 34, api.OK)
}

func TestReadInt256OfWrongSigns(t *testing.T) {
	for sign := 2; sign < 256; sign++ {
		expectReadInt(t, []byte{byte(sign), 1, 5}, 0, plus(), 0, api.ErrMalformed)
		expectReadInt(t, []byte{byte(sign), 0}, 0, plus(), 0, api.ErrMalformed)
	}
	expectReadInt(t, []byte{1, 0}, 0, plus(), 0, api.ErrMalformed)
	expectReadInt(t, []byte{1, 0, 5, 5}, 0, plus(), 0, api.ErrMalformed)
}

func TestReadInt256OfWrongMagnitudes(t *testing.T) {
	for _, sign := range []byte{0, 1} {
		for _, magnitude := range [][]byte{nil, {1}, {1, 0}, {2, 0, 1}, {3, 1, 2}, join([]byte{33}, run(1, 33))} {
			expectReadInt(t, join([]byte{sign}, magnitude), 0, plus(), 0, api.ErrMalformed)
		}
	}
}

func TestReadOutsideTheBytes(t *testing.T) {
	whole := []byte{0, 0, 0, 0, 0, 0}
	for _, b := range [][]byte{nil, {}, {0}, {0, 0, 0}, whole[:2]} {
		for _, at := range []int{-1, -2, math.MinInt, len(b) + 1, len(b) + 2, math.MaxInt32, math.MaxInt - 1, math.MaxInt} {
			expectNothing(t, b, at, api.ErrInvalidArgument)
		}
		expectNothing(t, b, len(b), api.ErrMalformed)
	}
}

func TestReadOfTooLongNumbers(t *testing.T) {
	for count := 33; count < 256; count++ {
		b := join([]byte{byte(count)}, run(1, count+5))
		expectNothing(t, b, 0, api.ErrMalformed)
	}
}

func TestReadOfLeadingZeros(t *testing.T) {
	for count := 1; count <= 32; count++ {
		b := join([]byte{byte(count), 0}, run(1, 40))
		expectNoNumber(t, b, 0, api.ErrMalformed)
		expectReadBytes(t, b, 0, nil, 0, api.ErrMalformed)
		expectReadInt(t, join([]byte{1}, b), 0, plus(), 0, api.ErrMalformed)
	}
}

// An encoding that is cut short is malformed, also where the capacity of the slice
// holds the rest of it.
func TestReadOfEveryPrefix(t *testing.T) {
	for _, n := range []api.Uint256{number(7), number(max64), number(0, 1), number(1, 2, 3, 4), maximum()} {
		encoding := AppendUint256(nil, n)
		for end := range encoding {
			expectRead256(t, encoding[:end], 0, number(), 0, api.ErrMalformed)
			expectRead64(t, encoding[:end], 0, 0, 0, api.ErrMalformed)
		}
		signed := AppendInt256(nil, api.Int256{Neg: true, Abs: n})
		for end := range signed {
			expectReadInt(t, signed[:end], 0, plus(), 0, api.ErrMalformed)
		}
	}
	for _, x := range [][]byte{{1}, run(5, 300)} {
		encoding := AppendBytes(nil, x)
		for end := range encoding {
			expectReadBytes(t, encoding[:end], 0, nil, 0, api.ErrMalformed)
		}
	}
}

func TestReadLeavesItsArgumentAlone(t *testing.T) {
	whole := []byte{1, 1, 5, 2, 1, 0, 9, 9}
	kept := slices.Clone(whole)
	for at := range 8 {
		ReadUint256(whole[:7], at)
		ReadUint64(whole[:7], at)
		ReadBytes(whole[:7], at)
		ReadInt256(whole[:7], at)
	}
	expectBytes(t, "the argument", whole, kept)
}

// P6.3

func TestRoundTripOfNumbers(t *testing.T) {
	for _, n := range integers() {
		value := fromBig(n)
		for _, before := range surroundings() {
			appended := AppendUint256(before, value)
			for _, after := range surroundings() {
				b := join(appended, after)
				expectRead256(t, b, len(before), value, len(appended), api.OK)
				if n.IsUint64() {
					expectRead64(t, b, len(before), n.Uint64(), len(appended), api.OK)
				}
			}
		}
	}
}

func TestRoundTripOfSignedIntegers(t *testing.T) {
	for _, n := range integers() {
		for _, negative := range []bool{false, n.Sign() > 0} {
			value := api.Int256{Neg: negative, Abs: fromBig(n)}
			for _, around := range surroundings() {
				appended := AppendInt256(around, value)
				expectReadInt(t, join(appended, around), len(around), value, len(appended), api.OK)
			}
		}
	}
}

func TestRoundTripOfByteStrings(t *testing.T) {
	for _, x := range byteStrings() {
		for _, around := range surroundings() {
			appended := AppendBytes(around, x)
			expectReadBytes(t, join(appended, around), len(around), x, len(appended), api.OK)
		}
	}
}

func TestSequenceOfValues(t *testing.T) {
	b := AppendUint64(nil, 5)
	b = AppendBytes(b, []byte("abc"))
	b = AppendInt256(b, minus(1000))
	b = AppendUint256(b, maximum())
	b = AppendUint64(b, 0)
	expectRead64(t, b, 0, 5, 2, api.OK)
	expectReadBytes(t, b, 2, []byte("abc"), 7, api.OK)
	expectReadInt(t, b, 7, minus(1000), 11, api.OK)
	expectRead256(t, b, 11, maximum(), 44, api.OK)
	expectRead64(t, b, 44, 0, 45, api.OK)
	expectNothing(t, b, 45, api.ErrMalformed)
}

// checkCanonical checks that what can be read from b is exactly what would be
// appended for the value: no other bytes encode it.
func checkCanonical(t *testing.T, b []byte) {
	t.Helper()
	if n, next, code := ReadUint256(b, 0); code == api.OK {
		expectBytes(t, "the encoding of the number", AppendUint256(nil, n), b[:next])
	}
	if n, next, code := ReadUint64(b, 0); code == api.OK {
		expectBytes(t, "the encoding of the 64-bit number", AppendUint64(nil, n), b[:next])
	}
	if x, next, code := ReadBytes(b, 0); code == api.OK {
		expectBytes(t, "the encoding of the byte string", AppendBytes(nil, x), b[:next])
	}
	if a, next, code := ReadInt256(b, 0); code == api.OK {
		expectBytes(t, "the encoding of the signed integer", AppendInt256(nil, a), b[:next])
	}
}

func TestNoValueHasTwoEncodings(t *testing.T) {
	for first := range 256 {
		for second := range 256 {
			for _, third := range []byte{0, 1, 2, 3, 127, 128, 255} {
				checkCanonical(t, []byte{byte(first), byte(second), third, 0, 1, 2})
				checkCanonical(t, []byte{byte(first), byte(second), third})
			}
		}
	}
	source := rand.New(rand.NewSource(67))
	for range 20000 {
		b := make([]byte, source.Intn(50))
		source.Read(b)
		if len(b) > 2 {
			b[0] = byte(source.Intn(35))
			b[1] = byte(source.Intn(256) * source.Intn(2))
		}
		checkCanonical(t, b)
		checkCanonical(t, join([]byte{byte(source.Intn(3))}, b))
	}
}

func TestConcurrentCalls(t *testing.T) {
	var group sync.WaitGroup
	b := AppendBytes(make([]byte, 0, 100), run(8, 20))
	for worker := range uint64(8) {
		group.Go(func() {
			for i := range uint64(500) {
				n := worker<<32 + i
				appended := AppendUint64(b, n)
				expectRead64(t, appended, len(b), n, len(appended), api.OK)
				expectReadBytes(t, appended, 0, run(8, 20), len(b), api.OK)
			}
		})
	}
	group.Wait()
}

func TestChapterExamples(t *testing.T) {
	expectBytes(t, "AppendUint256(nil, 258)", AppendUint256(nil, number(258)), []byte{2, 1, 2})
	expectRead256(t, []byte{1, 0}, 0, number(), 0, api.ErrMalformed)
	expectBytes(t, "AppendUint256(nil, 0)", AppendUint256(nil, number()), []byte{0})
}
