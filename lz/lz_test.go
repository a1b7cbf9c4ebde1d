package lz

import (
	"bytes"
	"math/rand"
	"slices"
	"strings"
	"sync"
	"testing"

	"pontage/api"
)

// join returns the bytes of all parts in a new slice.
func join(parts ...[]byte) []byte { return bytes.Join(parts, nil) }

// run returns count times the byte value.
func run(value byte, count int) []byte { return bytes.Repeat([]byte{value}, count) }

// ascending returns count bytes, 0, 1, 2 and so on; 255 is followed by 0.
func ascending(count int) []byte {
	var b []byte
	for i := range count {
		b = append(b, byte(i))
	}
	return b
}

// filler returns count bytes of which no four in a row occur twice, and whose
// values are less than 128. It requires count <= 8192.
func filler(count int) []byte {
	var b []byte
	for i := range count/2 + 1 {
		b = append(b, byte(64+i/64), byte(i%64))
	}
	return b[:count]
}

// repetition returns the distance and the length of the specified match at a
// position, without the limit for the least number of bytes.
func repetition(b []byte, position int) (distance, length int) {
	for d := 1; d <= 1024 && d <= position; d++ {
		n := 0
		for n < 131 && position+n < len(b) && b[position+n] == b[position+n-d] {
			n++
		}
		if n > length {
			distance, length = d, n
		}
	}
	return distance, length
}

// specifiedTokens is P9.1 word for word: it considers every distance.
func specifiedTokens(b []byte) []byte {
	var out, literals []byte
	flush := func() {
		for part := range slices.Chunk(literals, 127) {
			out = append(append(out, byte(len(part))), part...)
		}
		literals = nil
	}
	for position := 0; position < len(b); {
		distance, length := repetition(b, position)
		if length < 4 {
			literals = append(literals, b[position])
			position++
			continue
		}
		flush()
		out = append(out, byte(124+length), byte((distance-1)/256), byte((distance-1)%256))
		position += length
	}
	flush()
	return out
}

// specifiedOutput is P9.2 word for word.
func specifiedOutput(tokens []byte) ([]byte, api.Errno) {
	var out []byte
	for len(tokens) > 0 {
		t, rest := int(tokens[0]), tokens[1:]
		switch {
		case t == 0, t < 128 && len(rest) < t, t >= 128 && len(rest) < 2:
			return nil, api.ErrMalformed
		case t < 128 && len(out)+t > 65536:
			return nil, api.ErrTooLarge
		case t < 128:
			out, tokens = append(out, rest[:t]...), rest[t:]
			continue
		}
		distance, length := 256*int(rest[0])+int(rest[1])+1, t-124
		if distance > len(out) {
			return nil, api.ErrMalformed
		}
		if len(out)+length > 65536 {
			return nil, api.ErrTooLarge
		}
		start := len(out) - distance
		for k := range length {
			out = append(out, out[start+k])
		}
		tokens = rest[2:]
	}
	return out, api.OK
}

func expectCompressed(t *testing.T, b, want []byte) {
	t.Helper()
	if got := Compress(b); !bytes.Equal(got, want) {
		t.Errorf("Compress %d bytes %.40v: %.60v, want %.60v", len(b), b, got, want)
	}
}

func expectOutput(t *testing.T, tokens, want []byte) {
	t.Helper()
	if got, code := Decompress(tokens); code != api.OK || !bytes.Equal(got, want) {
		t.Errorf("Decompress %d bytes %.40v: %.60v (%d bytes), %d, want %.60v (%d bytes)", len(tokens), tokens, got, len(got), code, want, len(want))
	}
}

func expectCode(t *testing.T, tokens []byte, want api.Errno) {
	t.Helper()
	if got, code := Decompress(tokens); code != want || len(got) != 0 {
		t.Errorf("Decompress %d bytes %.40v: %d bytes, %d, want %d", len(tokens), tokens, len(got), code, want)
	}
}

// everyString calls visit with all strings of the given length over the alphabet.
func everyString(alphabet []byte, length int, visit func([]byte)) {
	digits := make([]int, length)
	b := run(alphabet[0], length)
	for {
		visit(b)
		place := 0
		for place < length && digits[place] == len(alphabet)-1 {
			digits[place], b[place] = 0, alphabet[0]
			place++
		}
		if place == length {
			return
		}
		digits[place]++
		b[place] = alphabet[digits[place]]
	}
}

// samples returns byte strings of many lengths and of different regularity, the
// same ones in every run.
func samples() [][]byte {
	source := rand.New(rand.NewSource(9))
	lists := [][]byte{nil, filler(4096), ascending(4096), run(0, 4096)}
	for count := range 60 {
		for _, values := range []int{1, 2, 3, 5, 16, 256} {
			b := make([]byte, count*count)
			for i := range b {
				b[i] = byte(source.Intn(values))
			}
			lists = append(lists, b)
		}
		lists = append(lists, pieces(source, count*count))
	}
	return lists
}

// pieces returns a string that is made of earlier pieces of itself, with some new
// bytes between them.
func pieces(source *rand.Rand, count int) []byte {
	b := []byte{1, 2, 3, 4, 5}
	for len(b) < count {
		start := source.Intn(len(b))
		end := min(len(b), start+source.Intn(200))
		b = append(b, b[start:end]...)
		b = append(b, byte(source.Intn(256)))
	}
	return b[:count]
}

// P9.1

func TestCompressExamples(t *testing.T) {
	for _, c := range []struct {
		in   string
		want []byte
	}{
		{"", nil},
		{"a", []byte{1, 'a'}},
		{"abcd", []byte{4, 'a', 'b', 'c', 'd'}},
		{"aaaa", []byte{4, 'a', 'a', 'a', 'a'}},
		{"aaaaa", []byte{1, 'a', 128, 0, 0}},
		{"aaaaaa", []byte{1, 'a', 129, 0, 0}},
		{"aaaab", []byte{5, 'a', 'a', 'a', 'a', 'b'}},
		{"abcdabc", []byte{7, 'a', 'b', 'c', 'd', 'a', 'b', 'c'}},
		{"abcdabcd", []byte{4, 'a', 'b', 'c', 'd', 128, 0, 3}},
		{"abcdabcde", []byte{4, 'a', 'b', 'c', 'd', 128, 0, 3, 1, 'e'}},
		{"ababababa", []byte{2, 'a', 'b', 131, 0, 1}},
	} {
		expectCompressed(t, []byte(c.in), c.want)
	}
}

func TestCompressEveryShortString(t *testing.T) {
	for _, c := range []struct {
		values, longest int
	}{{2, 15}, {3, 10}, {5, 7}} {
		for length := range c.longest + 1 {
			everyString(ascending(c.values), length, func(b []byte) {
				expectCompressed(t, b, specifiedTokens(b))
			})
		}
	}
}

func TestCompressSamples(t *testing.T) {
	for _, b := range samples() {
		expectCompressed(t, b, specifiedTokens(b))
	}
}

// Of matches with the same length the nearest is taken.
func TestSmallestDistance(t *testing.T) {
	word := []byte{200, 201, 202, 203, 204}
	b := join(word, []byte{1}, word, []byte{2}, word, []byte{3})
	expectCompressed(t, b, join([]byte{6}, word, []byte{1, 129, 0, 5, 1, 2, 129, 0, 5, 1, 3}))
	b = join(word, filler(400), word[:4], []byte{1}, word[:4], []byte{2})
	got := Compress(b)
	if tail := []byte{128, 1, 148, 1, 1, 128, 0, 4, 1, 2}; !bytes.HasSuffix(got, tail) {
		t.Errorf("nearest of equal matches: %v, want %v at the end", got[len(got)-12:], tail)
	}
}

// A longer match is taken although a shorter one is nearer, and although the
// longest one stands between shorter ones.
func TestLongestMatch(t *testing.T) {
	word := ascending(12)
	b := join(word[:5], []byte{100}, word[:9], []byte{101}, word[:7], []byte{102}, word[:4], []byte{103}, word)
	expectCompressed(t, b, specifiedTokens(b))
	got := Compress(b)
	if tail := []byte{1, 103, 133, 0, 22, 3, 9, 10, 11}; !bytes.HasSuffix(got, tail) {
		t.Errorf("longest match: %v, want %v at the end", got, tail)
	}
}

// Matches start at the leftmost possible position, even if a later start would
// give a longer match.
func TestLeftmostMatch(t *testing.T) {
	b := join([]byte("abcd1"), []byte("bcdefghi2"), []byte("abcdefghi"))
	expectCompressed(t, b, join([]byte{14}, []byte("abcd1bcdefghi2"), []byte{128, 0, 13, 129, 0, 9}))
}

// Positions within a match are earlier positions for what follows it.
func TestMatchIntoAMatch(t *testing.T) {
	b := []byte("abcdefgh-abcdefgh+efgh+")
	expectCompressed(t, b, join([]byte{9}, []byte("abcdefgh-"), []byte{132, 0, 8, 1, '+', 129, 0, 4}))
}

func TestWindow(t *testing.T) {
	word := []byte{200, 201, 202, 203, 204, 205}
	for gap := 1000; gap <= 1040; gap++ {
		b := join(word, filler(gap), word)
		want := specifiedTokens(b)
		expectCompressed(t, b, want)
		distance := gap + len(word)
		if match := []byte{130, byte((distance - 1) >> 8), byte(distance - 1)}; bytes.HasSuffix(want, match) != (distance <= api.LZWindow) {
			t.Errorf("distance %d: %v", distance, want[len(want)-8:])
		}
	}
	b := join(word, filler(1018), word)
	if got := Compress(b); !bytes.HasSuffix(got, []byte{130, 3, 255}) {
		t.Errorf("distance 1024: %v", got[len(got)-8:])
	}
	b = join(word, filler(1019), word)
	if got := Compress(b); !bytes.HasSuffix(got, word) {
		t.Errorf("distance 1025: %v", got[len(got)-8:])
	}
}

// A nearer, shorter match is taken if the longer one is beyond the window.
func TestWindowWithANearerMatch(t *testing.T) {
	word := []byte{200, 201, 202, 203, 204, 205}
	for _, gap := range []int{906, 907, 908, 909, 910, 911, 912, 913, 914} {
		b := join(word, filler(gap), word[:4], run(150, 1), filler(100), word, run(151, 1))
		expectCompressed(t, b, specifiedTokens(b))
		longer := bytes.HasSuffix(Compress(b), []byte{130, 3, byte(gap + 110 - 768), 1, 151})
		if longer != (gap+111 <= api.LZWindow) {
			t.Errorf("gap %d: %v", gap, longer)
		}
	}
}

// The window moves on: strings of many times its length.
func TestLongStrings(t *testing.T) {
	source := rand.New(rand.NewSource(19))
	for _, b := range [][]byte{pieces(source, 20000), filler(8192), bytes.Repeat(filler(1023), 12), bytes.Repeat(filler(1024), 12), bytes.Repeat(filler(1025), 12)} {
		expectCompressed(t, b, specifiedTokens(b))
	}
}

func TestMatchLengths(t *testing.T) {
	for count := 1; count <= 600; count++ {
		b := run('a', count)
		expectCompressed(t, b, specifiedTokens(b))
	}
	expectCompressed(t, run('a', 132), []byte{1, 'a', 255, 0, 0})
	expectCompressed(t, run('a', 133), []byte{1, 'a', 255, 0, 0, 1, 'a'})
	expectCompressed(t, run('a', 135), []byte{1, 'a', 255, 0, 0, 3, 'a', 'a', 'a'})
	expectCompressed(t, run('a', 136), []byte{1, 'a', 255, 0, 0, 128, 0, 0})
	expectCompressed(t, run('a', 263), []byte{1, 'a', 255, 0, 0, 255, 0, 0})
	for count := 1; count <= 300; count++ {
		word := filler(300)
		b := join(word, run(222, 1), word[:count], run(223, 1))
		expectCompressed(t, b, specifiedTokens(b))
	}
}

// Of two matches with MaxMatch bytes the nearest is taken, though more bytes
// would equal those at the other one.
func TestMatchesBeyondMaxMatch(t *testing.T) {
	word := filler(140)
	b := join(word, run(220, 1), word[:131], run(221, 1), word)
	got := Compress(b)
	if tail := []byte{255, 0, 131, 133, 1, 16}; !bytes.HasSuffix(got, tail) {
		t.Errorf("%v, want %v at the end", got[len(got)-12:], tail)
	}
	expectCompressed(t, b, specifiedTokens(b))
}

func TestLiteralRuns(t *testing.T) {
	b := ascending(256)
	for _, count := range []int{1, 2, 126, 127, 128, 129, 253, 254, 255, 256} {
		var want []byte
		for part := range slices.Chunk(b[:count], 127) {
			want = append(append(want, byte(len(part))), part...)
		}
		expectCompressed(t, b[:count], want)
		match := []byte{131, 0, byte(count - 1)}
		if count < 8 {
			continue
		}
		expectCompressed(t, join(b[:count], b[:7]), join(want, match))
		expectCompressed(t, join(b[:count], b[:7], run(9, 1)), join(want, match, []byte{1, 9}))
	}
}

// Strings of four bytes that an index might take for equal: they differ in one
// bit, are swapped, or have equal sums.
func TestSimilarStringsAreNotEqual(t *testing.T) {
	word := []byte{7, 70, 130, 201}
	var similar [][]byte
	for bit := range 32 {
		changed := slices.Clone(word)
		changed[bit/8] ^= 1 << (bit % 8)
		similar = append(similar, changed)
	}
	for i := range 4 {
		for j := range 4 {
			changed := slices.Clone(word)
			changed[i]++
			changed[j]--
			swapped := slices.Clone(word)
			swapped[i], swapped[j] = swapped[j], swapped[i]
			similar = append(similar, changed, swapped)
		}
	}
	for _, other := range similar {
		b := join(word, run(250, 1), other, run(251, 1), word)
		expectCompressed(t, b, specifiedTokens(b))
	}
	all := bytes.Join(append(similar, similar...), []byte{250})
	expectCompressed(t, all, specifiedTokens(all))
}

// P9.2

func TestDecompressExamples(t *testing.T) {
	for _, c := range []struct {
		tokens []byte
		want   string
	}{
		{nil, ""},
		{[]byte{}, ""},
		{[]byte{1, 'a'}, "a"},
		{[]byte{4, 'a', 'b', 'c', 'd'}, "abcd"},
		{[]byte{1, 'a', 129, 0, 0}, "aaaaaa"},
		{[]byte{1, 'a', 1, 'b', 2, 'c', 'd'}, "abcd"},
		{[]byte{3, 'a', 'b', 'c', 128, 0, 2}, "abcabca"},
		{[]byte{3, 'a', 'b', 'c', 128, 0, 1}, "abcbcbc"},
		{[]byte{3, 'a', 'b', 'c', 128, 0, 0}, "abccccc"},
		{[]byte{5, 'a', 'b', 'c', 'd', 'e', 128, 0, 4}, "abcdeabcd"},
		{[]byte{1, 'a', 128, 0, 0, 128, 0, 4}, "aaaaaaaaa"},
		{[]byte{2, 'a', 'b', 255, 0, 1}, "ab" + strings.Repeat("ab", 65) + "a"},
		{[]byte{2, 0, 255, 128, 0, 1}, "\x00\xff\x00\xff\x00\xff"},
	} {
		expectOutput(t, c.tokens, []byte(c.want))
	}
}

func TestDecompressEveryLength(t *testing.T) {
	for token := 1; token <= 127; token++ {
		expectOutput(t, join([]byte{byte(token)}, ascending(token)), ascending(token))
		for missing := 1; missing <= token; missing++ {
			expectCode(t, join([]byte{byte(token)}, ascending(token-missing)), api.ErrMalformed)
		}
	}
	for token := 128; token <= 255; token++ {
		expectOutput(t, []byte{1, 'x', byte(token), 0, 0}, run('x', token-123))
	}
}

// Both bytes of a distance count, also beyond the window of Compress.
func TestDecompressEveryDistance(t *testing.T) {
	out := filler(8192)
	out = append(out, run(200, 1)...)
	tokens := specifiedTokens(out)
	for _, distance := range []int{1, 2, 3, 4, 5, 255, 256, 257, 258, 511, 512, 513, 1023, 1024, 1025, 1026, 2048, 4097, 8191, 8192, 8193} {
		start := len(out) - distance
		want := out
		for k := range 4 {
			want = append(want[:len(want):len(want)], want[start+k])
		}
		expectOutput(t, join(tokens, []byte{128, byte((distance - 1) >> 8), byte(distance - 1)}), want)
	}
	for _, distance := range []int{8194, 8195, 16384, 65535, 65536} {
		expectCode(t, join(tokens, []byte{128, byte((distance - 1) >> 8), byte(distance - 1)}), api.ErrMalformed)
	}
}

func TestDistanceBeyondTheOutput(t *testing.T) {
	for length := range 128 {
		var start []byte
		if length > 0 {
			start = join([]byte{byte(length)}, ascending(length))
		}
		for d := max(0, length-3); d < length+4; d++ {
			tokens := join(start, []byte{130, 0, byte(d)})
			if d < length {
				want, _ := specifiedOutput(tokens)
				expectOutput(t, tokens, want)
			} else {
				expectCode(t, tokens, api.ErrMalformed)
			}
		}
		expectCode(t, join(start, []byte{130, 1, 0}), api.ErrMalformed)
	}
}

func TestDecompressEveryShortSequence(t *testing.T) {
	compare := func(tokens []byte) {
		if want, code := specifiedOutput(tokens); code == api.OK {
			expectOutput(t, tokens, want)
		} else {
			expectCode(t, tokens, code)
		}
	}
	for length := range 3 {
		everyString(ascending(256), length, compare)
	}
	for length := 3; length <= 7; length++ {
		everyString([]byte{0, 1, 2, 127, 128, 255}, length, compare)
	}
	source := rand.New(rand.NewSource(29))
	for range 20000 {
		tokens := make([]byte, source.Intn(40))
		for i := range tokens {
			tokens[i] = []byte{0, 1, 1, 2, 3, 5, 128, 130, 255, byte(source.Intn(256))}[source.Intn(10)]
		}
		compare(tokens)
	}
}

// Every sequence that is cut within a token is malformed; one that is cut between
// two tokens is the start of the output.
func TestTruncatedSequences(t *testing.T) {
	source := rand.New(rand.NewSource(39))
	for range 20 {
		b := pieces(source, 700)
		tokens := Compress(b)
		whole := 0
		for end := range len(tokens) + 1 {
			got, code := Decompress(tokens[:end])
			if code == api.OK && (!bytes.HasPrefix(b, got) || len(got) < whole) {
				t.Errorf("the first %d of %d bytes: %d bytes", end, len(tokens), len(got))
			}
			want, wantCode := specifiedOutput(tokens[:end])
			if code != wantCode || !bytes.Equal(got, want) {
				t.Errorf("the first %d of %d bytes: %d bytes, %d", end, len(tokens), len(got), code)
			}
			whole = max(whole, len(got))
		}
		if whole != len(b) {
			t.Errorf("all of %d bytes: %d", len(b), whole)
		}
	}
}

// largeOutput returns tokens whose output is count times the byte 'a'.
func largeOutput(count int) []byte {
	var tokens []byte
	for part := range slices.Chunk(run('a', count), 127) {
		tokens = append(append(tokens, byte(len(part))), part...)
	}
	return tokens
}

func TestLargestOutput(t *testing.T) {
	for _, count := range []int{1, 127, 131, 132, 133, 65408, 65409, 65410, 65534, 65535, 65536} {
		expectOutput(t, largeOutput(count), run('a', count))
	}
	for _, count := range []int{65537, 65538, 65600, 70000, 1 << 20} {
		expectCode(t, largeOutput(count), api.ErrTooLarge)
	}
	for _, room := range []int{0, 1, 3, 4, 5, 126, 127, 128, 130, 131, 132} {
		tokens := largeOutput(65536 - room)
		for _, count := range []int{1, 2, 3, 4, 5, 126, 127} {
			more := join(tokens, []byte{byte(count)}, run('b', count))
			if count <= room {
				expectOutput(t, more, join(run('a', 65536-room), run('b', count)))
			} else {
				expectCode(t, more, api.ErrTooLarge)
			}
		}
		for _, count := range []int{4, 5, 127, 128, 130, 131} {
			more := join(tokens, []byte{byte(124 + count), 0, 0})
			if count <= room {
				expectOutput(t, more, run('a', 65536-room+count))
			} else {
				expectCode(t, more, api.ErrTooLarge)
			}
		}
	}
}

// The greatest distance that a token can tell.
func TestGreatestDistance(t *testing.T) {
	tokens := join([]byte{5}, []byte("vwxyz"), largeOutput(65500-5))
	want := join([]byte("vwxyz"), run('a', 65500-5), []byte("vwxy"))
	expectOutput(t, join(tokens, []byte{128, 255, 219}), want)
	expectCode(t, join(tokens, []byte{128, 255, 220}), api.ErrMalformed)
	full := largeOutput(65536)
	expectCode(t, join(full, []byte{128, 255, 255}), api.ErrTooLarge)
	expectCode(t, join(largeOutput(65535), []byte{128, 255, 255}), api.ErrMalformed)
}

// Within a token a malformed one comes before a large one; of two tokens the
// first counts.
func TestFirstError(t *testing.T) {
	full := largeOutput(65536)
	for _, c := range []struct {
		tail []byte
		want api.Errno
	}{
		{[]byte{0}, api.ErrMalformed},
		{[]byte{1}, api.ErrMalformed},
		{[]byte{1, 'b'}, api.ErrTooLarge},
		{[]byte{2, 'b'}, api.ErrMalformed},
		{[]byte{127}, api.ErrMalformed},
		{[]byte{128}, api.ErrMalformed},
		{[]byte{255, 0}, api.ErrMalformed},
		{[]byte{128, 0, 0}, api.ErrTooLarge},
		{[]byte{1, 'b', 0}, api.ErrTooLarge},
		{[]byte{128, 0, 0, 1}, api.ErrTooLarge},
		{[]byte{0, 1, 'b'}, api.ErrMalformed},
	} {
		expectCode(t, join(full, c.tail), c.want)
	}
	short := largeOutput(65535)
	expectCode(t, join(short, []byte{128, 255, 255}), api.ErrMalformed)
	expectCode(t, join(short, []byte{128, 255, 254}), api.ErrTooLarge)
	expectCode(t, []byte{0, 1, 'a'}, api.ErrMalformed)
	expectCode(t, []byte{1, 'a', 0}, api.ErrMalformed)
	expectCode(t, []byte{1, 'a', 0, 1, 'a'}, api.ErrMalformed)
}

// P9.3

func expectRoundTrip(t *testing.T, b []byte) {
	t.Helper()
	compressed := Compress(b)
	expectOutput(t, compressed, b)
	if most := len(b) + (len(b)+126)/127; len(compressed) > most {
		t.Errorf("Compress %d bytes: %d bytes, want at most %d", len(b), len(compressed), most)
	}
}

func TestRoundTripOfSamples(t *testing.T) {
	for _, b := range samples() {
		expectRoundTrip(t, b)
	}
	for length := range 13 {
		everyString([]byte{0, 255}, length, func(b []byte) { expectRoundTrip(t, b) })
	}
}

// Compressed bytes are bytes like any others.
func TestRoundTripTwice(t *testing.T) {
	for _, b := range samples() {
		expectRoundTrip(t, Compress(b))
	}
}

func TestRoundTripOfGreatStrings(t *testing.T) {
	source := rand.New(rand.NewSource(49))
	for _, count := range []int{4096, 65535, 65536} {
		b := make([]byte, count)
		source.Read(b)
		expectRoundTrip(t, b)
		expectRoundTrip(t, pieces(source, count))
		expectRoundTrip(t, run(255, count))
	}
	for _, count := range []int{65537, 100000} {
		expectCode(t, Compress(run(1, count)), api.ErrTooLarge)
		expectCode(t, Compress(pieces(source, count)), api.ErrTooLarge)
	}
}

// Strings without matches reach the greatest length.
func TestGreatestCompressedLength(t *testing.T) {
	for _, count := range []int{1, 126, 127, 128, 254, 255, 4096, 8128, 8129, 8192} {
		if got := Compress(filler(count)); len(got) != count+(count+126)/127 {
			t.Errorf("Compress %d bytes: %d bytes", count, len(got))
		}
	}
}

// The general rules

func TestArgumentsAreLeftAlone(t *testing.T) {
	for _, in := range [][]byte{[]byte("abcdabcdabcdx"), ascending(200), run(3, 300)} {
		memory := join(in, run(99, 600))
		Compress(memory[:len(in)])
		if !bytes.Equal(memory, join(in, run(99, 600))) {
			t.Errorf("Compress changes its argument %v", in)
		}
		tokens := specifiedTokens(in)
		memory = join(tokens, run(99, 600))
		Decompress(memory[:len(tokens)])
		if !bytes.Equal(memory, join(tokens, run(99, 600))) {
			t.Errorf("Decompress changes its argument %v", tokens)
		}
	}
}

// Neither what stands behind an argument nor its capacity counts.
func TestCapacityDoesNotCount(t *testing.T) {
	text := []byte("abcdabcdabcdabcd")
	for end := range len(text) + 1 {
		expectCompressed(t, text[:end], specifiedTokens(slices.Clip(slices.Clone(text[:end]))))
	}
	expectCode(t, []byte{2, 'a', 'b'}[:2], api.ErrMalformed)
	expectCode(t, []byte{1, 'a', 128, 0, 0}[:4], api.ErrMalformed)
	expectCode(t, []byte{1, 'a', 128, 0, 0}[:3], api.ErrMalformed)
}

func TestResultsShareNoMemory(t *testing.T) {
	in := []byte("abcdefghabcdefgh")
	first, second := Compress(in), Compress(in)
	tokens := slices.Clone(first)
	clear(first[:cap(first)])
	if !bytes.Equal(second, tokens) || string(in) != "abcdefghabcdefgh" {
		t.Error("results of Compress share memory")
	}
	out, _ := Decompress(tokens)
	other, _ := Decompress(tokens)
	clear(out[:cap(out)])
	if !bytes.Equal(other, in) || !bytes.Equal(tokens, second) {
		t.Error("results of Decompress share memory")
	}
	clear(in)
	if !bytes.Equal(second, tokens) {
		t.Error("a result of Compress shares memory with the argument")
	}
}

func TestNilAndEmptyAreEqual(t *testing.T) {
	if len(Compress(nil)) != 0 || len(Compress([]byte{})) != 0 {
		t.Error("Compress of nothing is not empty")
	}
	expectOutput(t, nil, nil)
	expectOutput(t, []byte{}, nil)
}

// One call leaves nothing behind for the next.
func TestCallsAreIndependent(t *testing.T) {
	b := []byte("abcdefgh")
	want := Compress(b)
	for range 3 {
		Compress(bytes.Repeat(b, 50))
		Decompress([]byte{0})
		expectCompressed(t, b, want)
	}
}

func TestConcurrentCalls(t *testing.T) {
	lists := samples()[:200]
	var workers sync.WaitGroup
	for start := range 8 {
		workers.Go(func() {
			for i := range lists {
				b := lists[(i+start*25)%len(lists)]
				if out, code := Decompress(Compress(b)); code != api.OK || !bytes.Equal(out, b) {
					t.Errorf("concurrent round trip of %d bytes", len(b))
				}
			}
		})
	}
	workers.Wait()
}

// slowStrings are great strings that make a search for matches long: there are
// many near matches, or many short ones.
func slowStrings(count int) map[string][]byte {
	source := rand.New(rand.NewSource(59))
	random := make([]byte, count)
	source.Read(random)
	short := make([]byte, count)
	for i := range short {
		short[i] = byte(source.Intn(3))
	}
	var broken []byte
	for i := 0; len(broken) < count; i++ {
		broken = append(append(broken, run('a', 4+i%7)...), byte(i), byte(i>>8))
	}
	return map[string][]byte{"random": random, "short": short, "broken": broken[:count], "equal": run('a', count), "pieces": pieces(source, count)}
}

// Strings of any length are compressed, in a time that is linear in the length.
func TestCompressGreatStrings(t *testing.T) {
	const count = 1 << 20
	for name, b := range slowStrings(count) {
		if got, most := len(Compress(b)), count+(count+126)/127; got > most {
			t.Errorf("Compress %s: %d bytes, want at most %d", name, got, most)
		}
	}
}

func BenchmarkCompress(b *testing.B) {
	for name, data := range slowStrings(api.MaxTxData) {
		b.Run(name, func(b *testing.B) {
			for b.Loop() {
				Compress(data)
			}
		})
	}
}

func BenchmarkDecompress(b *testing.B) {
	for name, data := range slowStrings(api.MaxTxData) {
		tokens := Compress(data)
		b.Run(name, func(b *testing.B) {
			for b.Loop() {
				Decompress(tokens)
			}
		})
	}
}
