package hash

import (
	"bytes"
	"crypto/sha256"
	"encoding/hex"
	"math/big"
	"math/rand"
	"strings"
	"sync"
	"testing"

	"pontage/api"
)

// randomBytes returns pseudorandom bytes, the same ones in every run.
func randomBytes(seed int64, length int) []byte {
	b := make([]byte, length)
	rand.New(rand.NewSource(seed)).Read(b)
	return b
}

// join returns the bytes of all parts in a new slice.
func join(parts ...[]byte) []byte { return bytes.Join(parts, nil) }

// sampleHashes returns hashes with all byte values in all places.
func sampleHashes() []api.Hash {
	l := []api.Hash{{}, sha256.Sum256(nil), sha256.Sum256([]byte("abc"))}
	for value := range 256 {
		l = append(l, api.Hash(bytes.Repeat([]byte{byte(value)}, 32)))
	}
	for place := range 32 {
		var low, high api.Hash
		low[place], high[place] = 0x05, 0xa0
		l = append(l, low, high)
	}
	for seed := range int64(50) {
		l = append(l, api.Hash(randomBytes(seed, 32)))
	}
	return l
}

func expectHash(t *testing.T, name string, got, want api.Hash) {
	t.Helper()
	if got != want {
		t.Errorf("%s: %x, want %x", name, got, want)
	}
}

func expectSum(t *testing.T, b []byte) {
	t.Helper()
	if got, want := Sum(b), api.Hash(sha256.Sum256(b)); got != want {
		t.Errorf("Sum of %d bytes: %x, want %x", len(b), got, want)
	}
}

func expectMalformed(t *testing.T, s string) {
	t.Helper()
	if h, code := Parse(s); h != (api.Hash{}) || code != api.ErrMalformed {
		t.Errorf("Parse(%q): %x, %d, want ErrMalformed", s, h, code)
	}
}

// P7.1

func TestSumOfPublishedExamples(t *testing.T) {
	for _, c := range []struct{ in, want string }{
		{"", "e3b0c44298fc1c149afbf4c8996fb92427ae41e4649b934ca495991b7852b855"},
		{"abc", "ba7816bf8f01cfea414140de5dae2223b00361a396177a9cb410ff61f20015ad"},
		{"abcdbcdecdefdefgefghfghighijhijkijkljklmklmnlmnomnopnopq", "248d6a61d20638b8e5c026930c3e6039a33ce45964ff2167f6ecedd419db06c1"},
		{
			"abcdefghbcdefghicdefghijdefghijkefghijklfghijklmghijklmnhijklmnoijklmnopjklmnopqklmnopqrlmnopqrsmnopqrstnopqrstu",
			"cf5b16a778af8380036ce59e7b0492370b249b11e8f07a51afac45037afee9d1",
		},
		{strings.Repeat("a", 1000000), "cdc76e5c9914fb9281a1c7e284d73e67f1809a48a497200e046d39ccc7112cd0"},
	} {
		h := Sum([]byte(c.in))
		if got := hex.EncodeToString(h[:]); got != c.want {
			t.Errorf("Sum of %d bytes: %s, want %s", len(c.in), got, c.want)
		}
	}
}

func TestSumOfNilAndEmpty(t *testing.T) {
	expectHash(t, "Sum(nil)", Sum(nil), sha256.Sum256(nil))
	expectHash(t, "Sum of an empty slice", Sum([]byte{}), sha256.Sum256(nil))
}

// The lengths around the multiples of 64, and around 56 modulo 64, decide the
// number of padding blocks.
func TestSumOfEveryShortLength(t *testing.T) {
	random := randomBytes(1, 1100)
	for length := range 1101 {
		expectSum(t, random[:length])
		expectSum(t, make([]byte, length))
		expectSum(t, bytes.Repeat([]byte{255}, length))
		expectSum(t, bytes.Repeat([]byte{128}, length))
	}
}

// The bit lengths of these inputs take up to four bytes.
func TestSumOfLongInputs(t *testing.T) {
	random := randomBytes(2, 1<<21+1)
	for exponent := 11; exponent <= 21; exponent++ {
		for _, change := range []int{-9, -8, -1, 0, 1} {
			expectSum(t, random[:1<<exponent+change])
		}
	}
	expectSum(t, randomBytes(3, 1<<24+17))
}

func TestSumOfRandomBytes(t *testing.T) {
	for seed := range int64(3000) {
		expectSum(t, randomBytes(seed, 1+int(seed%197)))
	}
}

func TestSumOfSingleBits(t *testing.T) {
	for place := range 130 {
		for bit := range 8 {
			b := make([]byte, 130)
			b[place] = 1 << bit
			expectSum(t, b)
		}
	}
}

// The bit length of 512 MiB needs a fifth byte, which no input of a test's size
// has; so the padding is tested by itself.
func TestPaddingOfGreatLengths(t *testing.T) {
	for _, c := range []struct {
		length uint64
		want   []byte
	}{
		{1 << 29, []byte{0, 0, 0, 1, 0, 0, 0, 0}},
		{1<<31 - 64, []byte{0, 0, 0, 3, 255, 255, 254, 0}},
		{0x0011223344556640, []byte{0, 0x89, 0x11, 0x9a, 0x22, 0xab, 0x32, 0}},
		{0x1fffffffffffffc0, []byte{255, 255, 255, 255, 255, 255, 254, 0}},
	} {
		want := join([]byte{128}, make([]byte, 55), c.want)
		if got := padded(nil, c.length); !bytes.Equal(got, want) {
			t.Errorf("padding of %d bytes: %v, want %v", c.length, got, want)
		}
	}
}

func TestPaddingSizes(t *testing.T) {
	for length := range 64 {
		want := 64
		if length > 55 {
			want = 128
		}
		tail := randomBytes(4, length)
		blocks := padded(tail, uint64(length))
		if len(blocks) != want || !bytes.Equal(blocks[:length], tail) || blocks[length] != 128 {
			t.Errorf("padding of %d bytes: %v", length, blocks)
		}
	}
}

// firstPrimes returns the first count primes.
func firstPrimes(count int) []int64 {
	var primes []int64
	for n := int64(2); len(primes) < count; n++ {
		if big.NewInt(n).ProbablyPrime(10) {
			primes = append(primes, n)
		}
	}
	return primes
}

// fractionalBits returns the first 32 fractional bits of the root of n with the
// given degree: the greatest r with r^degree <= n * 2^(32 * degree), modulo 2^32.
func fractionalBits(n, degree int64) uint32 {
	limit := new(big.Int).Lsh(big.NewInt(n), uint(32*degree))
	root := new(big.Int)
	for bit := 48; bit >= 0; bit-- {
		root.SetBit(root, bit, 1)
		if new(big.Int).Exp(root, big.NewInt(degree), nil).Cmp(limit) > 0 {
			root.SetBit(root, bit, 0)
		}
	}
	return uint32(root.Uint64())
}

func TestConstants(t *testing.T) {
	for i, prime := range firstPrimes(64) {
		if want := fractionalBits(prime, 3); roundConstants[i] != want {
			t.Errorf("round constant %d: %08x, want %08x", i, roundConstants[i], want)
		}
	}
	for i, prime := range firstPrimes(8) {
		if want := fractionalBits(prime, 2); initialChain()[i] != want {
			t.Errorf("initial state %d: %08x, want %08x", i, initialChain()[i], want)
		}
	}
}

// P7.2

func TestLeaf(t *testing.T) {
	expectHash(t, "Leaf(nil)", Leaf(nil), sha256.Sum256([]byte{0}))
	expectHash(t, "Leaf of an empty slice", Leaf([]byte{}), sha256.Sum256([]byte{0}))
	random := randomBytes(5, 300)
	for length := range 301 {
		b := random[:length]
		expectHash(t, "Leaf", Leaf(b), sha256.Sum256(join([]byte{0}, b)))
		zeros := make([]byte, length)
		expectHash(t, "Leaf of zeros", Leaf(zeros), sha256.Sum256(make([]byte, length+1)))
	}
	long := randomBytes(6, 1<<16)
	expectHash(t, "Leaf of a long input", Leaf(long), sha256.Sum256(join([]byte{0}, long)))
}

func TestNode(t *testing.T) {
	hashes := sampleHashes()
	for i, x := range hashes {
		y := hashes[(7*i+3)%len(hashes)]
		for _, pair := range [][2]api.Hash{{x, y}, {y, x}, {x, x}, {x, {}}, {{}, x}} {
			want := sha256.Sum256(join([]byte{1}, pair[0][:], pair[1][:]))
			expectHash(t, "Node", Node(pair[0], pair[1]), want)
		}
	}
}

func TestLeafAndNodeDiffer(t *testing.T) {
	x, y := Sum([]byte("x")), Sum([]byte("y"))
	if Node(x, y) == Leaf(join(x[:], y[:])) {
		t.Error("a leaf has the hash of a node")
	}
	if Node(x, y) == Node(y, x) {
		t.Error("the order of the children does not count")
	}
}

func TestFormat(t *testing.T) {
	for _, h := range sampleHashes() {
		if got, want := Format(h), hex.EncodeToString(h[:]); got != want {
			t.Errorf("Format(%v): %s, want %s", h, got, want)
		}
	}
}

func TestParse(t *testing.T) {
	for _, h := range sampleHashes() {
		if got, code := Parse(hex.EncodeToString(h[:])); got != h || code != api.OK {
			t.Errorf("Parse of %x: %x, %d", h, got, code)
		}
		if got, code := Parse(Format(h)); got != h || code != api.OK {
			t.Errorf("Parse of Format of %x: %x, %d", h, got, code)
		}
	}
}

func TestParseOfWrongLengths(t *testing.T) {
	for length := range 300 {
		if length != 64 {
			expectMalformed(t, strings.Repeat("0", length))
			expectMalformed(t, strings.Repeat("f", length))
		}
	}
	valid := Format(Sum(nil))
	for _, s := range []string{
		valid[1:], valid[:63], valid[2:], valid + "0", valid + "00", "0" + valid, "00" + valid,
		valid + " ", " " + valid, valid + "\n", valid + "\x00", "0x" + valid, "0x" + valid[2:], valid + valid,
	} {
		expectMalformed(t, s)
	}
}

// Every byte in every place: 16 of them are digits, and no other is accepted.
func TestParseOfEveryByte(t *testing.T) {
	for _, valid := range []string{Format(Sum([]byte("abc"))), strings.Repeat("0", 64)} {
		for place := range 64 {
			for value := range 256 {
				changed := []byte(valid)
				changed[place] = byte(value)
				checkParseOfBytes(t, changed)
			}
		}
	}
}

// checkParseOfBytes checks Parse of 64 bytes.
func checkParseOfBytes(t *testing.T, s []byte) {
	t.Helper()
	want := make([]byte, 32)
	_, err := hex.Decode(want, s)
	if err != nil || !bytes.Equal(s, bytes.ToLower(s)) {
		expectMalformed(t, string(s))
		return
	}
	if h, code := Parse(string(s)); h != api.Hash(want) || code != api.OK {
		t.Errorf("Parse(%q): %x, %d, want %x", s, h, code, want)
	}
}

func TestParseOfOtherDigits(t *testing.T) {
	valid := Format(Sum([]byte("abc")))
	expectMalformed(t, strings.ToUpper(valid))
	expectMalformed(t, strings.Repeat("é", 32))
	expectMalformed(t, strings.Repeat("０", 21)+"0")
	expectMalformed(t, strings.Repeat("0", 61)+"０")
	expectMalformed(t, strings.Repeat("\xff", 64))
}

// The general rules

func TestArgumentsAreLeftAlone(t *testing.T) {
	for length := range 200 {
		whole := bytes.Repeat([]byte{7}, 400)
		Sum(whole[:length])
		Leaf(whole[:length])
		if !bytes.Equal(whole, bytes.Repeat([]byte{7}, 400)) {
			t.Fatalf("an argument of %d bytes or its capacity was changed", length)
		}
	}
}

// The bytes behind the length of a slice do not count.
func TestCapacityDoesNotCount(t *testing.T) {
	whole := randomBytes(8, 300)
	for length := range 200 {
		short := bytes.Clone(whole[:length:length])
		expectHash(t, "Sum", Sum(whole[:length]), sha256.Sum256(short))
		expectHash(t, "Leaf", Leaf(whole[:length]), Leaf(short))
	}
}

func TestConcurrentCalls(t *testing.T) {
	shared := randomBytes(9, 5000)
	want := api.Hash(sha256.Sum256(shared))
	leaf := api.Hash(sha256.Sum256(join([]byte{0}, shared)))
	var group sync.WaitGroup
	for range 8 {
		group.Go(func() {
			for range 50 {
				h, code := Parse(Format(Sum(shared)))
				if h != want || code != api.OK || Leaf(shared) != leaf || Node(h, h) != Node(want, want) {
					t.Error("concurrent calls disturb each other")
				}
			}
		})
	}
	group.Wait()
}

func BenchmarkSum(b *testing.B) {
	data := randomBytes(10, 1<<16)
	b.SetBytes(int64(len(data)))
	for b.Loop() {
		Sum(data)
	}
}

func BenchmarkNode(b *testing.B) {
	x, y := Sum([]byte("x")), Sum([]byte("y"))
	for b.Loop() {
		Node(x, y)
	}
}
