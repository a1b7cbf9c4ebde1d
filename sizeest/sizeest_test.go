package sizeest

import (
	"bytes"
	"encoding/binary"
	"math"
	"math/big"
	"math/rand"
	"slices"
	"strings"
	"sync"
	"testing"

	"pontage/api"
	"pontage/lz"
)

const max64 = math.MaxUint64

// number returns the integer with the given limbs, the least significant first.
func number(limbs ...uint64) api.Uint256 {
	var n api.Uint256
	copy(n[:], limbs)
	return n
}

func maximum() api.Uint256 { return number(max64, max64, max64, max64) }

// incompressible returns count bytes of which no four in a row occur twice, so
// that their compressed form consists of literals. It requires count <= 8192.
func incompressible(count int) []byte {
	var b []byte
	for i := range count/2 + 1 {
		b = append(b, byte(64+i/64), byte(i%64))
	}
	return b[:count]
}

// sample is a string of bytes with the length of its compressed form, counted by
// hand from chapter 9.
type sample struct {
	b          []byte
	compressed uint64
}

func samples() []sample {
	const literal, match = 1, 3
	return []sample{
		{nil, 0},
		{[]byte{}, 0},
		{[]byte{0}, literal + 1},
		{[]byte("abcd"), literal + 4},
		{[]byte("aaaa"), literal + 4},
		{[]byte("aaaaa"), literal + 1 + match},
		{[]byte("aaaaaa"), literal + 1 + match},
		{[]byte("abcdabc"), literal + 7},
		{[]byte("abcdabcd"), literal + 4 + match},
		{[]byte("abcdabcdx"), literal + 4 + match + literal + 1},
		{bytes.Repeat([]byte{255}, 132), literal + 1 + match},
		{bytes.Repeat([]byte{255}, 133), literal + 1 + match + literal + 1},
		{make([]byte, 4096), literal + 1 + 32*match},
		{incompressible(127), literal + 127},
		{incompressible(128), 2*literal + 128},
		{incompressible(4096), 33*literal + 4096},
		{slices.Concat(incompressible(1024), incompressible(131)), 9*literal + 1024 + match},
	}
}

// clamp returns units, but at least low and at most high.
func clamp(units, low, high uint64) uint64 {
	switch {
	case units < low:
		return low
	case units > high:
		return high
	}
	return units
}

func expectUnits(t *testing.T, b []byte, minUnits, maxUnits, want uint64, wantCode api.Errno) {
	t.Helper()
	if got, code := Units(b, minUnits, maxUnits); got != want || code != wantCode {
		t.Errorf("Units(%d bytes %.20v, %d, %d) = %d, %d; want %d, %d", len(b), b, minUnits, maxUnits, got, code, want, wantCode)
	}
}

func expectCost(t *testing.T, units uint64, price, want api.Uint256, wantCode api.Errno) {
	t.Helper()
	if got, code := Cost(units, price); got != want || code != wantCode {
		t.Errorf("Cost(%d, %v) = %v, %d; want %v, %d", units, price, got, code, want, wantCode)
	}
}

func TestChapterExamples(t *testing.T) {
	expectUnits(t, []byte("abcd"), 0, 1000, 80, api.OK)
	expectUnits(t, nil, 16, 1000, 16, api.OK)
}

// P10.1: Units

func TestUnitsCountCompressedBytes(t *testing.T) {
	for _, s := range samples() {
		expectUnits(t, s.b, 0, max64, 16*s.compressed, api.OK)
	}
}

func TestUnitsOfEveryLength(t *testing.T) {
	longest := incompressible(4096)
	for count := range 4097 {
		tokens := (count + 126) / 127
		expectUnits(t, longest[:count], 0, max64, uint64(16*(count+tokens)), api.OK)
	}
}

func TestUnitsAgreeWithCompress(t *testing.T) {
	source := rand.New(rand.NewSource(10))
	for range 2000 {
		b := make([]byte, source.Intn(4097))
		alphabet := 1 + source.Intn(1<<source.Intn(9))
		for i := range b {
			b[i] = byte(source.Intn(alphabet))
		}
		want := uint64(16 * len(lz.Compress(b)))
		expectUnits(t, b, 0, max64, want, api.OK)
		low, width := uint64(source.Intn(70000)), uint64(source.Intn(70000))
		expectUnits(t, b, low, low+width, clamp(want, low, low+width), api.OK)
	}
}

func TestUnitsStayWithinBounds(t *testing.T) {
	for _, s := range samples() {
		units := 16 * s.compressed
		bounds := []uint64{0, 1, units, units + 1, 16 * uint64(len(s.b)), 1 << 16, 1 << 32, 1 << 63, max64 - 1, max64}
		if units > 0 {
			bounds = append(bounds, units-1)
		}
		for _, low := range bounds {
			for _, high := range bounds {
				if low <= high {
					expectUnits(t, s.b, low, high, clamp(units, low, high), api.OK)
				} else {
					expectUnits(t, s.b, low, high, 0, api.ErrInvalidArgument)
				}
			}
		}
	}
}

func TestUnitsRejectReversedBounds(t *testing.T) {
	for _, high := range []uint64{0, 1, 79, 80, 81, 1 << 32, 1<<63 - 1, max64 - 1} {
		for _, low := range []uint64{high + 1, max64} {
			expectUnits(t, nil, low, high, 0, api.ErrInvalidArgument)
			expectUnits(t, []byte("abcd"), low, high, 0, api.ErrInvalidArgument)
		}
	}
}

func TestUnitsLimitTheData(t *testing.T) {
	expectUnits(t, make([]byte, 4095), 0, max64, 16*98, api.OK)
	expectUnits(t, make([]byte, 4096), 0, max64, 16*98, api.OK)
	for _, count := range []int{4097, 4098, 8192, 1 << 16, 1<<16 + 1} {
		expectUnits(t, make([]byte, count), 0, max64, 0, api.ErrTooLarge)
		expectUnits(t, make([]byte, count), 16, 16, 0, api.ErrTooLarge)
	}
}

// The chapter names the bounds before the data.
func TestUnitsReportReversedBoundsFirst(t *testing.T) {
	expectUnits(t, make([]byte, 4097), 1, 0, 0, api.ErrInvalidArgument)
	expectUnits(t, make([]byte, 4097), max64, max64-1, 0, api.ErrInvalidArgument)
}

// Units depend on the length of the data, not on the capacity behind it.
func TestUnitsLeaveTheDataUnchanged(t *testing.T) {
	memory := []byte(strings.Repeat("pontage", 1000))
	before := bytes.Clone(memory)
	for _, count := range []int{0, 1, 7, 100, 4096, 4097} {
		want, wantCode := Units(bytes.Clone(memory[:count]), 0, max64)
		expectUnits(t, memory[:count], 0, max64, want, wantCode)
		if !bytes.Equal(memory, before) {
			t.Fatalf("Units of %d bytes changed the memory of its argument", count)
		}
	}
}

// Calls keep nothing: the same data give the same units after other data, also
// if they stand in the same memory.
func TestUnitsKeepNothing(t *testing.T) {
	memory := []byte("abcdabcd")
	expectUnits(t, memory, 0, max64, 128, api.OK)
	copy(memory, "abcdefgh")
	expectUnits(t, memory, 0, max64, 144, api.OK)
	expectUnits(t, memory, 1, 0, 0, api.ErrInvalidArgument)
	copy(memory, "abcdabcd")
	expectUnits(t, memory, 0, max64, 128, api.OK)
}

// P10.1: Cost

func fromBig(n *big.Int) api.Uint256 {
	var a api.Uint256
	data := n.FillBytes(make([]byte, 32))
	for i := range a {
		a[i] = binary.BigEndian.Uint64(data[24-8*i:])
	}
	return a
}

// costByBig is P10.1's formula, evaluated with unbounded integers.
func costByBig(units uint64, price *big.Int) (api.Uint256, api.Errno) {
	cost := new(big.Int).Mul(new(big.Int).SetUint64(units), price)
	if cost.BitLen() > 256 {
		return api.Uint256{}, api.ErrOverflow
	}
	return fromBig(cost), api.OK
}

// unitCounts returns the ends of the range, both sides of the powers of two and
// pseudorandom counts, the same ones in every run.
func unitCounts() []uint64 {
	counts := []uint64{0, 3, 80, 66064, max64 - 1, max64}
	for exponent := range 64 {
		power := uint64(1) << exponent
		counts = append(counts, power-1, power, power+1)
	}
	source := rand.New(rand.NewSource(101))
	for range 60 {
		counts = append(counts, source.Uint64()>>source.Intn(64))
	}
	return counts
}

// prices returns the ends of the range, both sides of the powers of two and of
// the smallest price whose product with the units overflows, and pseudorandom
// prices, the same ones in every run.
func prices(units uint64) []*big.Int {
	one := big.NewInt(1)
	end := new(big.Int).Lsh(one, 256)
	values := []*big.Int{new(big.Int), end}
	if units != 0 {
		values = append(values, new(big.Int).Div(end, new(big.Int).SetUint64(units)))
	}
	source := rand.New(rand.NewSource(102))
	for exponent := range uint(256) {
		power := new(big.Int).Lsh(one, exponent)
		values = append(values, power, new(big.Int).Rand(source, power))
	}
	var inRange []*big.Int
	for _, value := range values {
		for _, offset := range []int64{-1, 0, 1} {
			price := new(big.Int).Add(value, big.NewInt(offset))
			if price.Sign() >= 0 && price.Cmp(end) < 0 {
				inRange = append(inRange, price)
			}
		}
	}
	return inRange
}

func TestCost(t *testing.T) {
	expectCost(t, 0, number(), number(), api.OK)
	expectCost(t, 3, number(7), number(21), api.OK)
	expectCost(t, 0, maximum(), number(), api.OK)
	expectCost(t, 1, maximum(), maximum(), api.OK)
	expectCost(t, max64, number(), number(), api.OK)
	expectCost(t, max64, number(max64), number(1, max64-1), api.OK)
	expectCost(t, max64, number(0, 0, 0, 1), number(0, 0, 0, max64), api.OK)
	expectCost(t, max64, number(1, 1, 1, 1), maximum(), api.OK)
}

func TestCostOverflows(t *testing.T) {
	expectCost(t, 2, maximum(), number(), api.ErrOverflow)
	expectCost(t, 2, number(0, 0, 0, 1<<63), number(), api.ErrOverflow)
	expectCost(t, max64, number(2, 1, 1, 1), number(), api.ErrOverflow)
	expectCost(t, max64, maximum(), number(), api.ErrOverflow)
}

func TestCostAgreesWithUnboundedIntegers(t *testing.T) {
	for _, units := range unitCounts() {
		for _, price := range prices(units) {
			want, wantCode := costByBig(units, price)
			expectCost(t, units, fromBig(price), want, wantCode)
		}
	}
}

func TestConcurrentCalls(t *testing.T) {
	var group sync.WaitGroup
	for worker := range uint64(8) {
		group.Go(func() {
			for _, s := range samples() {
				expectUnits(t, s.b, worker, max64, max(16*s.compressed, worker), api.OK)
				expectCost(t, s.compressed, number(worker), number(s.compressed*worker), api.OK)
			}
		})
	}
	group.Wait()
}
