package decimal

import (
	"encoding/binary"
	"math"
	"math/big"
	"math/rand"
	"strings"
	"sync"
	"testing"

	"pontage/api"
)

const (
	max64 = math.MaxUint64

	greatestText  = "115792089237316195423570985008687907853269984665640564039457584007913129639935"
	longestDigits = len(greatestText)
)

var (
	bigOne   = big.NewInt(1)
	bigLimit = new(big.Int).Lsh(bigOne, 256)
)

// number returns the integer with the given limbs, the least significant first.
func number(limbs ...uint64) api.Uint256 {
	var n api.Uint256
	copy(n[:], limbs)
	return n
}

func maximum() api.Uint256 { return number(max64, max64, max64, max64) }

// fromBig converts without any call of the project's arithmetic.
func fromBig(n *big.Int) api.Uint256 {
	var a api.Uint256
	data := n.FillBytes(make([]byte, 32))
	for i := range a {
		a[i] = binary.BigEndian.Uint64(data[24-8*i:])
	}
	return a
}

func fits(n *big.Int) bool { return n.Cmp(bigLimit) < 0 }

func powerOfTen(exponent int) *big.Int {
	return new(big.Int).Exp(big.NewInt(10), big.NewInt(int64(exponent)), nil)
}

// withNeighbours returns n with the integers before and behind it.
func withNeighbours(n *big.Int) []*big.Int {
	return []*big.Int{new(big.Int).Sub(n, bigOne), n, new(big.Int).Add(n, bigOne)}
}

// naturals returns integers that are not negative, of up to 85 digits: the powers
// of ten and of two and the multiples of 10^19 with their neighbours, and
// pseudorandom integers of all bit lengths, the same ones in every run.
func naturals() []*big.Int {
	var values []*big.Int
	for exponent := range 86 {
		values = append(values, withNeighbours(powerOfTen(exponent))...)
	}
	for exponent := range uint(270) {
		values = append(values, withNeighbours(new(big.Int).Lsh(bigOne, exponent))...)
	}
	source := rand.New(rand.NewSource(4))
	for length := range uint(270) {
		limit := new(big.Int).Lsh(bigOne, length)
		for range 8 {
			random := new(big.Int).Rand(source, limit)
			values = append(values, random)
			values = append(values, withNeighbours(new(big.Int).Mul(powerOfTen(19), new(big.Int).Add(random, bigOne)))...)
		}
	}
	return values
}

// malformedDigits returns strings that are no digits in the sense of P4.1, with
// and without a sign in front.
func malformedDigits() []string {
	return []string{
		"", " ", "a", "/", ":", ".", "+", "\x00", "\xff",
		"00", "01", "007", "000", "0" + greatestText, strings.Repeat("0", 79), strings.Repeat("0", 500) + "1", "0a",
		" 1", "1 ", "1 2", "\t1", "1\n", "\x001", "1\x00", "+1", "+0", "1+", "1-", "1-2",
		"1a", "a1", "0x10", "1e3", "1.0", "1,000", "1_000", "0b1", "0o7",
		"\u0663", "1\u0663", "\u0663" + "1", "\uff11", "\u00b2", "\u2212" + "1", "1\xb2",
		greatestText + "x", "x" + greatestText, strings.Repeat("9", 200) + "x", strings.Repeat("9", 100) + "x" + strings.Repeat("9", 100), "1" + strings.Repeat("0", 1000) + " ",
	}
}

func expectParse(t *testing.T, s string, want api.Uint256, wantCode api.Errno) {
	t.Helper()
	if got, code := Parse(s); got != want || code != wantCode {
		t.Errorf("Parse(%.100q) = %v, %d; want %v, %d", s, got, code, want, wantCode)
	}
}

func expectParseInt(t *testing.T, s string, want api.Int256, wantCode api.Errno) {
	t.Helper()
	if got, code := ParseInt(s); got != want || code != wantCode {
		t.Errorf("ParseInt(%.100q) = %v, %d; want %v, %d", s, got, code, want, wantCode)
	}
}

// P4.1

func TestFormatAndParse(t *testing.T) {
	for _, c := range []struct {
		a    api.Uint256
		text string
	}{
		{number(0), "0"},
		{number(1), "1"},
		{number(9), "9"},
		{number(10), "10"},
		{number(100), "100"},
		{number(1234567890), "1234567890"},
		{number(9999999999999999999), "9999999999999999999"},
		{number(10000000000000000000), "10000000000000000000"},
		{number(10000000000000000001), "10000000000000000001"},
		{number(max64), "18446744073709551615"},
		{number(0, 1), "18446744073709551616"},
		{number(1, 1), "18446744073709551617"},
		{number(0, 0, 1), "340282366920938463463374607431768211456"},
		{number(max64, max64, max64), "6277101735386680763835789423207666416102355444464034512895"},
		{number(0, 0, 0, 1), "6277101735386680763835789423207666416102355444464034512896"},
		{number(0, 0, 0, 1<<63), "57896044618658097711785492504343953926634992332820282019728792003956564819968"},
		{number(max64-1, max64, max64, max64), greatestText[:77] + "4"},
		{maximum(), greatestText},
	} {
		if got := Format(c.a); got != c.text {
			t.Errorf("Format(%v) = %q; want %q", c.a, got, c.text)
		}
		expectParse(t, c.text, c.a, api.OK)
	}
}

// Each text is the canonical one of its number, so it must be what Format
// returns, and Parse must return the number or ErrOverflow.
func TestFormatAndParseAgainstIntegers(t *testing.T) {
	occurred := map[api.Errno]bool{}
	for _, n := range naturals() {
		want, wantCode := api.Uint256{}, api.ErrOverflow
		if fits(n) {
			want, wantCode = fromBig(n), api.OK
			if got := Format(want); got != n.String() {
				t.Errorf("Format(%v) = %q; want %q", want, got, n)
			}
		}
		occurred[wantCode] = true
		expectParse(t, n.String(), want, wantCode)
	}
	if !occurred[api.OK] || !occurred[api.ErrOverflow] {
		t.Errorf("the integers have only results of one kind: %v", occurred)
	}
}

func TestParseAtTheOverflowLimit(t *testing.T) {
	limit := new(big.Int).Set(bigLimit)
	for distance := int64(1); distance <= 200; distance++ {
		below := new(big.Int).Sub(limit, big.NewInt(distance))
		expectParse(t, below.String(), fromBig(below), api.OK)
		above := new(big.Int).Add(limit, big.NewInt(distance-1))
		expectParse(t, above.String(), api.Uint256{}, api.ErrOverflow)
	}
}

// A number of more than 78 digits is too great whatever its digits are, also
// where its value modulo 2^256 is small.
func TestParseOverflowOfAnyLength(t *testing.T) {
	for length := longestDigits + 1; length <= 400; length++ {
		expectParse(t, "1"+strings.Repeat("0", length-1), api.Uint256{}, api.ErrOverflow)
		expectParse(t, strings.Repeat("9", length), api.Uint256{}, api.ErrOverflow)
	}
	for _, factor := range []int64{1, 2, 10, 1000000007} {
		for _, rest := range []int64{0, 1, 9} {
			for exponent := uint(256); exponent <= 1024; exponent += 64 {
				n := new(big.Int).Lsh(big.NewInt(factor), exponent)
				expectParse(t, n.Add(n, big.NewInt(rest)).String(), api.Uint256{}, api.ErrOverflow)
			}
		}
	}
}

func TestParseLongStrings(t *testing.T) {
	const length = 1 << 24
	digits := strings.Repeat("7", length)
	expectParse(t, digits, api.Uint256{}, api.ErrOverflow)
	expectParse(t, digits+"x", api.Uint256{}, api.ErrMalformed)
	expectParse(t, "0"+digits, api.Uint256{}, api.ErrMalformed)
	expectParseInt(t, "-"+digits, api.Int256{}, api.ErrOverflow)
	expectParseInt(t, "-"+digits+"-", api.Int256{}, api.ErrMalformed)
}

func TestParseMalformed(t *testing.T) {
	for _, s := range malformedDigits() {
		expectParse(t, s, api.Uint256{}, api.ErrMalformed)
	}
	for _, s := range []string{"-", "-0", "-1", "--1", "-" + greatestText, "-" + greatestText + "0"} {
		expectParse(t, s, api.Uint256{}, api.ErrMalformed)
	}
}

// A byte that is no digit makes the string malformed at every place, in a number
// that fits and in one that does not.
func TestParseEveryByteAtEveryPlace(t *testing.T) {
	for _, digits := range []string{"1", "12", "1234567890", greatestText, greatestText + "0", strings.Repeat("9", 100)} {
		for place := range len(digits) {
			for value := range 256 {
				changed := []byte(digits)
				changed[place] = byte(value)
				want, wantCode := api.Uint256{}, api.ErrMalformed
				if value >= '0' && value <= '9' && (value != '0' || place > 0 || len(digits) == 1) {
					n, _ := new(big.Int).SetString(string(changed), 10)
					wantCode = api.ErrOverflow
					if fits(n) {
						want, wantCode = fromBig(n), api.OK
					}
				}
				expectParse(t, string(changed), want, wantCode)
			}
		}
	}
}

// P4.2

func TestFormatIntAndParseInt(t *testing.T) {
	for _, c := range []struct {
		a    api.Int256
		text string
	}{
		{api.Int256{}, "0"},
		{api.Int256{Abs: number(1)}, "1"},
		{api.Int256{Neg: true, Abs: number(1)}, "-1"},
		{api.Int256{Abs: number(12)}, "12"},
		{api.Int256{Neg: true, Abs: number(12)}, "-12"},
		{api.Int256{Neg: true, Abs: number(100)}, "-100"},
		{api.Int256{Neg: true, Abs: number(1 << 63)}, "-9223372036854775808"},
		{api.Int256{Neg: true, Abs: number(0, 1)}, "-18446744073709551616"},
		{api.Int256{Neg: true, Abs: number(0, 0, 1)}, "-340282366920938463463374607431768211456"},
		{api.Int256{Abs: maximum()}, greatestText},
		{api.Int256{Neg: true, Abs: maximum()}, "-" + greatestText},
	} {
		if got := FormatInt(c.a); got != c.text {
			t.Errorf("FormatInt(%v) = %q; want %q", c.a, got, c.text)
		}
		expectParseInt(t, c.text, c.a, api.OK)
	}
}

func TestFormatIntOfInvalid(t *testing.T) {
	if got := FormatInt(api.Int256{Neg: true}); got != "" {
		t.Errorf("FormatInt(-0) = %q; want the empty string", got)
	}
}

func TestFormatIntAndParseIntAgainstIntegers(t *testing.T) {
	for _, magnitude := range naturals() {
		for _, n := range []*big.Int{magnitude, new(big.Int).Neg(magnitude)} {
			want, wantCode := api.Int256{}, api.ErrOverflow
			if fits(magnitude) {
				want, wantCode = api.Int256{Neg: n.Sign() < 0, Abs: fromBig(magnitude)}, api.OK
				if got := FormatInt(want); got != n.String() {
					t.Errorf("FormatInt(%v) = %q; want %q", want, got, n)
				}
			}
			expectParseInt(t, n.String(), want, wantCode)
		}
	}
}

func TestParseIntOverflow(t *testing.T) {
	for _, digits := range []string{
		bigLimit.String(), greatestText[:77] + "6", greatestText + "0", greatestText + "1", "1" + strings.Repeat("0", 78), strings.Repeat("9", 78), strings.Repeat("9", 500),
	} {
		expectParseInt(t, digits, api.Int256{}, api.ErrOverflow)
		expectParseInt(t, "-"+digits, api.Int256{}, api.ErrOverflow)
	}
}

func TestParseIntMalformed(t *testing.T) {
	for _, digits := range malformedDigits() {
		expectParseInt(t, digits, api.Int256{}, api.ErrMalformed)
		expectParseInt(t, "-"+digits, api.Int256{}, api.ErrMalformed)
	}
	for _, s := range []string{
		"-0", "--", "--0", "--1", "---1", "+-1", "-+1", " -1", "- 1", "-1-", "1-", "-1 ",
		"--" + greatestText, "--" + greatestText + "0", "-0" + greatestText, "-00",
	} {
		expectParseInt(t, s, api.Int256{}, api.ErrMalformed)
	}
}

// General rules

// Every text has at most one number and every number one text, so a text of a
// few characters is accepted exactly if formatting what it denotes returns it.
func TestShortStringsAreCanonical(t *testing.T) {
	const alphabet = "0129-+ ax"
	texts := []string{""}
	for start := 0; len(texts) < 7000; start++ {
		for _, character := range alphabet {
			texts = append(texts, texts[start]+string(character))
		}
	}
	accepted := 0
	for _, s := range texts {
		a, code := ParseInt(s)
		n, denotes := new(big.Int).SetString(s, 10)
		if canonical := denotes && n.String() == s; canonical != (code == api.OK) {
			t.Errorf("ParseInt(%q) = %v, %d", s, a, code)
		}
		if code == api.OK {
			accepted++
			if FormatInt(a) != s {
				t.Errorf("FormatInt(ParseInt(%q)) = %q", s, FormatInt(a))
			}
		} else if code != api.ErrMalformed || a != (api.Int256{}) {
			t.Errorf("ParseInt(%q) = %v, %d; want ErrMalformed", s, a, code)
		}
	}
	if accepted == 0 || accepted == len(texts) {
		t.Errorf("%d of %d texts are accepted", accepted, len(texts))
	}
}

func TestConcurrentCalls(t *testing.T) {
	var group sync.WaitGroup
	for range 8 {
		group.Go(func() {
			for range 200 {
				if got := Format(maximum()); got != greatestText {
					t.Errorf("Format(2^256 - 1) = %q", got)
				}
				expectParseInt(t, "-"+greatestText, api.Int256{Neg: true, Abs: maximum()}, api.OK)
			}
		})
	}
	group.Wait()
}

func TestChapterExamples(t *testing.T) {
	expectParse(t, "007", api.Uint256{}, api.ErrMalformed)
	expectParseInt(t, "-12", api.Int256{Neg: true, Abs: number(12)}, api.OK)
	expectParseInt(t, "-0", api.Int256{}, api.ErrMalformed)
}
