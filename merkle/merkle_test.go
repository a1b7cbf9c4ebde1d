package merkle

import (
	"bytes"
	"crypto/sha256"
	"encoding/binary"
	"math"
	"math/rand"
	"slices"
	"sync"
	"testing"

	"pontage/api"
	"pontage/hash"
)

// leafAt returns a leaf for each index; all of them differ.
func leafAt(i int) api.Hash {
	return sha256.Sum256(binary.BigEndian.AppendUint64([]byte("leaf"), uint64(i)))
}

func leaves(count int) []api.Hash {
	var l []api.Hash
	for i := range count {
		l = append(l, leafAt(i))
	}
	return l
}

// treeOf returns a tree with the given number of leaves.
func treeOf(count int) *Tree {
	tree := New()
	for i := range count {
		tree.Append(leafAt(i))
	}
	return tree
}

// nodeOf is the specified hash of a node, without any call of the project's code.
func nodeOf(x, y api.Hash) api.Hash {
	return sha256.Sum256(slices.Concat([]byte{1}, x[:], y[:]))
}

// powerBelow is the largest power of two less than n, for n > 1.
func powerBelow(n int) int {
	k := 1
	for k < n-k {
		k *= 2
	}
	return k
}

// specifiedRoot is the recursion of P8.1.
func specifiedRoot(l []api.Hash) api.Hash {
	switch len(l) {
	case 0:
		return sha256.Sum256(nil)
	case 1:
		return l[0]
	}
	k := powerBelow(len(l))
	return nodeOf(specifiedRoot(l[:k]), specifiedRoot(l[k:]))
}

// pairedRoot computes the root of at least one leaf in another way: it joins
// neighbours until one hash is left; a last hash without a neighbour is kept.
func pairedRoot(l []api.Hash) api.Hash {
	for len(l) > 1 {
		var above []api.Hash
		for pair := range slices.Chunk(l, 2) {
			if len(pair) == 2 {
				above = append(above, nodeOf(pair[0], pair[1]))
			} else {
				above = append(above, pair[0])
			}
		}
		l = above
	}
	return l[0]
}

// specifiedProof is the recursion of P8.2.
func specifiedProof(l []api.Hash, i int) []api.Hash {
	if len(l) == 1 {
		return nil
	}
	k := powerBelow(len(l))
	if i < k {
		return append(specifiedProof(l[:k], i), specifiedRoot(l[k:]))
	}
	return append(specifiedProof(l[k:], i-k), specifiedRoot(l[:k]))
}

// sides returns, from the root to leaf i of n, whether the leaf is on the left.
func sides(n, i int) []bool {
	var l []bool
	for n > 1 {
		k := powerBelow(n)
		l = append(l, i < k)
		if i < k {
			n = k
		} else {
			n, i = n-k, i-k
		}
	}
	return l
}

// provenRoot returns the root that the specified recomputation yields, or false
// if the length of the proof is wrong. It requires 0 <= i < n.
func provenRoot(n, i int, leaf api.Hash, proof []api.Hash) (api.Hash, bool) {
	directions := sides(n, i)
	if len(directions) != len(proof) {
		return api.Hash{}, false
	}
	slices.Reverse(directions)
	for level, left := range directions {
		if left {
			leaf = nodeOf(leaf, proof[level])
		} else {
			leaf = nodeOf(proof[level], leaf)
		}
	}
	return leaf, true
}

// hugeSizes are numbers of leaves that no tree of a test's size has.
func hugeSizes() []int {
	return []int{1 << 31, 1<<32 + 1, 1<<53 - 1, 1 << 62, 1<<62 + 1, 1<<62 + 1<<61, math.MaxInt - 1, math.MaxInt}
}

// extremes are integers at the ends of the range and around 0.
func extremes() []int {
	return []int{math.MinInt, math.MinInt + 1, -1 << 32, -2, -1, 0, 1, 2, 1 << 32, 1 << 62, math.MaxInt - 1, math.MaxInt}
}

func expectRoot(t *testing.T, tree *Tree, n int, want api.Hash) {
	t.Helper()
	if got, ok := tree.Root(n); !ok || got != want {
		t.Errorf("Root(%d) of %d leaves: %x, %t, want %x", n, tree.Len(), got, ok, want)
	}
}

func expectNoRoot(t *testing.T, tree *Tree, n int) {
	t.Helper()
	if got, ok := tree.Root(n); ok || got != (api.Hash{}) {
		t.Errorf("Root(%d) of %d leaves: %x, %t, want false", n, tree.Len(), got, ok)
	}
}

func expectProof(t *testing.T, tree *Tree, i, n int, want []api.Hash) {
	t.Helper()
	if got, ok := tree.Proof(i, n); !ok || !slices.Equal(got, want) {
		t.Errorf("Proof(%d, %d) of %d leaves: %x, %t, want %x", i, n, tree.Len(), got, ok, want)
	}
}

func expectNoProof(t *testing.T, tree *Tree, i, n int) {
	t.Helper()
	if got, ok := tree.Proof(i, n); ok || len(got) != 0 {
		t.Errorf("Proof(%d, %d) of %d leaves: %x, %t, want false", i, n, tree.Len(), got, ok)
	}
}

func expectVerify(t *testing.T, want bool, root api.Hash, n, i int, leaf api.Hash, proof []api.Hash) {
	t.Helper()
	if got := Verify(root, n, i, leaf, proof); got != want {
		t.Errorf("Verify of leaf %d of %d with %d hashes: %t", i, n, len(proof), got)
	}
}

// P8.1

func TestRootOfExamples(t *testing.T) {
	x, y, z, w := leafAt(1), leafAt(2), leafAt(3), leafAt(4)
	for _, c := range []struct {
		leaves []api.Hash
		want   api.Hash
	}{
		{nil, hash.Sum(nil)},
		{[]api.Hash{}, hash.Sum(nil)},
		{[]api.Hash{x}, x},
		{[]api.Hash{{}}, api.Hash{}},
		{[]api.Hash{x, y}, hash.Node(x, y)},
		{[]api.Hash{y, x}, hash.Node(y, x)},
		{[]api.Hash{x, x}, hash.Node(x, x)},
		{[]api.Hash{x, y, z}, hash.Node(hash.Node(x, y), z)},
		{[]api.Hash{x, y, z, w}, hash.Node(hash.Node(x, y), hash.Node(z, w))},
		{[]api.Hash{x, y, z, w, x}, hash.Node(hash.Node(hash.Node(x, y), hash.Node(z, w)), x)},
	} {
		if got := RootOf(c.leaves); got != c.want {
			t.Errorf("RootOf %d leaves: %x, want %x", len(c.leaves), got, c.want)
		}
	}
}

func TestRootOfEveryShortList(t *testing.T) {
	l := leaves(300)
	for count := 1; count <= len(l); count++ {
		got := RootOf(l[:count])
		if got != specifiedRoot(l[:count]) || got != pairedRoot(l[:count]) {
			t.Errorf("RootOf %d leaves: %x, want %x", count, got, specifiedRoot(l[:count]))
		}
	}
}

func TestRootOfLongLists(t *testing.T) {
	l := leaves(1<<14 + 1)
	for exponent := 9; exponent <= 14; exponent++ {
		for _, change := range []int{-2, -1, 0, 1} {
			count := 1<<exponent + change
			if got, want := RootOf(l[:count]), pairedRoot(l[:count]); got != want {
				t.Errorf("RootOf %d leaves: %x, want %x", count, got, want)
			}
		}
	}
}

// Each leaf counts, in its place.
func TestRootDependsOnEveryLeaf(t *testing.T) {
	for count := 1; count <= 40; count++ {
		l := leaves(count)
		root := RootOf(l)
		for i := range l {
			changed := slices.Clone(l)
			changed[i][i%32] ^= 1
			if RootOf(changed) == root {
				t.Errorf("leaf %d of %d does not count", i, count)
			}
			if i > 0 {
				swapped := slices.Clone(l)
				swapped[i], swapped[i-1] = swapped[i-1], swapped[i]
				if RootOf(swapped) == root {
					t.Errorf("the order of leaves %d and %d of %d does not count", i-1, i, count)
				}
			}
		}
	}
}

// P8.2

func TestEmptyTree(t *testing.T) {
	tree := New()
	if tree == nil || tree.Len() != 0 {
		t.Fatal("New does not return an empty tree")
	}
	expectRoot(t, tree, 0, sha256.Sum256(nil))
	for _, n := range extremes() {
		if n != 0 {
			expectNoRoot(t, tree, n)
		}
		for _, i := range extremes() {
			expectNoProof(t, tree, i, n)
		}
	}
}

func TestAppendReturnsTheIndex(t *testing.T) {
	tree := New()
	for i := range 2000 {
		if tree.Len() != i {
			t.Fatalf("Len: %d, want %d", tree.Len(), i)
		}
		if index := tree.Append(leafAt(i)); index != i {
			t.Fatalf("Append: %d, want %d", index, i)
		}
	}
	if tree.Len() != 2000 {
		t.Errorf("Len: %d, want 2000", tree.Len())
	}
}

// Every root and every proof of every prefix, at every length of the tree: an
// appended leaf does not change those of the leaves before it.
func TestEveryPrefixOfEveryTree(t *testing.T) {
	const most = 70
	l := leaves(most)
	roots := []api.Hash{specifiedRoot(nil)}
	proofs := [][][]api.Hash{nil}
	for n := 1; n <= most; n++ {
		roots = append(roots, specifiedRoot(l[:n]))
		var row [][]api.Hash
		for i := range n {
			row = append(row, specifiedProof(l[:n], i))
		}
		proofs = append(proofs, row)
	}
	tree := New()
	for length := 0; length <= most; length++ {
		for n := range length + 1 {
			expectRoot(t, tree, n, roots[n])
			for i, proof := range proofs[n] {
				expectProof(t, tree, i, n, proof)
			}
		}
		if length < most {
			tree.Append(l[length])
		}
	}
}

func TestRootAndProofOfAGreatTree(t *testing.T) {
	const count = 5000
	tree, l := treeOf(count), leaves(count)
	source := rand.New(rand.NewSource(8))
	sizes := []int{1, 2, 3, 255, 256, 257, 1023, 1024, 1025, 2048, 4095, 4096, 4097, 4098, 4999, 5000}
	for range 40 {
		sizes = append(sizes, 1+source.Intn(count))
	}
	for _, n := range sizes {
		expectRoot(t, tree, n, pairedRoot(l[:n]))
		for _, i := range []int{0, n / 2, n - 1, source.Intn(n), source.Intn(n)} {
			expectProof(t, tree, i, n, specifiedProof(l[:n], i))
		}
	}
}

func TestProofExamples(t *testing.T) {
	tree := New()
	x, y, z := leafAt(7), leafAt(8), leafAt(9)
	tree.Append(x)
	expectProof(t, tree, 0, 1, nil)
	tree.Append(y)
	tree.Append(z)
	expectProof(t, tree, 0, 1, nil)
	expectProof(t, tree, 0, 2, []api.Hash{y})
	expectProof(t, tree, 1, 2, []api.Hash{x})
	expectProof(t, tree, 0, 3, []api.Hash{y, z})
	expectProof(t, tree, 1, 3, []api.Hash{x, z})
	expectProof(t, tree, 2, 3, []api.Hash{hash.Node(x, y)})
}

func TestRootOutsideOfTheTree(t *testing.T) {
	for _, length := range []int{0, 1, 2, 3, 4, 7, 8, 9, 31, 32, 33} {
		tree := treeOf(length)
		for _, n := range append(extremes(), length-1, length, length+1, length+2, 2*length) {
			if n >= 0 && n <= length {
				expectRoot(t, tree, n, specifiedRoot(leaves(n)))
			} else {
				expectNoRoot(t, tree, n)
			}
		}
	}
}

func TestProofOutsideOfTheTree(t *testing.T) {
	for _, length := range []int{0, 1, 2, 3, 4, 7, 8, 9, 31, 32, 33} {
		tree := treeOf(length)
		numbers := append(extremes(), length-1, length, length+1, length+2, 2*length)
		for _, n := range numbers {
			for _, i := range append(slices.Clone(numbers), n-1, n, n+1) {
				if i >= 0 && i < n && n <= length {
					expectProof(t, tree, i, n, specifiedProof(leaves(n), i))
				} else {
					expectNoProof(t, tree, i, n)
				}
			}
		}
	}
}

func TestTreesAreIndependent(t *testing.T) {
	first, second := New(), New()
	for i := range 50 {
		first.Append(leafAt(i))
		if i%3 == 0 {
			second.Append(leafAt(1000 + i))
		}
	}
	var others []api.Hash
	for i := 0; i < 50; i += 3 {
		others = append(others, leafAt(1000+i))
	}
	expectRoot(t, first, 50, specifiedRoot(leaves(50)))
	expectRoot(t, second, len(others), specifiedRoot(others))
	if second.Len() != len(others) {
		t.Errorf("Len: %d, want %d", second.Len(), len(others))
	}
}

func TestEqualLeaves(t *testing.T) {
	tree := New()
	var l []api.Hash
	for range 37 {
		tree.Append(api.Hash{})
		l = append(l, api.Hash{})
		expectRoot(t, tree, len(l), specifiedRoot(l))
		for i := range l {
			expectProof(t, tree, i, len(l), specifiedProof(l, i))
		}
	}
}

// A root after each leaf is what the escrow needs. It ends in time only if a root
// does not take all leaves.
func TestRootAfterEveryAppend(t *testing.T) {
	const count = 100000
	tree := New()
	for n := 1; n <= count; n++ {
		tree.Append(leafAt(n - 1))
		root, ok := tree.Root(n)
		proof, found := tree.Proof(n/2, n)
		if !ok || !found || n%1000 == 0 && !Verify(root, n, n/2, leafAt(n/2), proof) {
			t.Fatalf("root and proof of %d leaves", n)
		}
	}
	expectRoot(t, tree, count, pairedRoot(leaves(count)))
}

// P8.3

func TestVerifyExamples(t *testing.T) {
	x, y, z := leafAt(1), leafAt(2), leafAt(3)
	expectVerify(t, true, x, 1, 0, x, nil)
	expectVerify(t, true, x, 1, 0, x, []api.Hash{})
	expectVerify(t, false, y, 1, 0, x, nil)
	expectVerify(t, false, hash.Sum(nil), 1, 0, x, nil)
	expectVerify(t, false, hash.Sum(nil), 0, 0, x, nil)
	expectVerify(t, false, hash.Node(x, y), 1, 0, x, []api.Hash{y})
	root := hash.Node(hash.Node(x, y), z)
	expectVerify(t, true, root, 3, 0, x, []api.Hash{y, z})
	expectVerify(t, true, root, 3, 1, y, []api.Hash{x, z})
	expectVerify(t, true, root, 3, 2, z, []api.Hash{hash.Node(x, y)})
	expectVerify(t, false, root, 3, 1, y, []api.Hash{z, x})
	expectVerify(t, false, root, 3, 2, z, []api.Hash{x, y})
	expectVerify(t, false, root, 2, 0, hash.Node(x, y), nil)
}

func TestVerifyIndexOutsideOfTheTree(t *testing.T) {
	l := leaves(9)
	root, proof := specifiedRoot(l), specifiedProof(l, 8)
	for _, n := range append(extremes(), 3, 8, 9, 10) {
		for _, i := range append(extremes(), 3, 8, 9, 10, n-1, n, n+1) {
			if i >= 0 && i < n {
				continue
			}
			for length := range 66 {
				expectVerify(t, false, l[0], n, i, l[0], make([]api.Hash, length))
			}
			expectVerify(t, false, root, n, i, l[8], proof)
			expectVerify(t, false, api.Hash{}, n, i, api.Hash{}, nil)
		}
	}
}

// For any n and i, a proof of the right length verifies for the root that it
// yields and for no other one; no other length verifies, with whatever root.
func TestVerifyRecomputesTheRoot(t *testing.T) {
	source := rand.New(rand.NewSource(83))
	hashes := leaves(200)
	for n := 1; n <= 66; n++ {
		for i := range n {
			checkProofLengths(t, n, i, hashes, source)
		}
	}
}

func TestVerifyHugeTrees(t *testing.T) {
	source := rand.New(rand.NewSource(84))
	hashes := leaves(200)
	for _, n := range hugeSizes() {
		indices := []int{0, 1, 2, n / 2, n/2 + 1, n - 2, n - 1, powerBelow(n) - 1, powerBelow(n)}
		for range 5 {
			indices = append(indices, source.Intn(n))
		}
		for _, i := range indices {
			checkProofLengths(t, n, i, hashes, source)
		}
	}
}

// checkProofLengths checks Verify for all lengths up to 66 with some of the
// hashes as the proof.
func checkProofLengths(t *testing.T, n, i int, hashes []api.Hash, source *rand.Rand) {
	t.Helper()
	required := len(sides(n, i))
	for length := range 67 {
		from := source.Intn(100)
		leaf, proof := hashes[from], hashes[from+1:from+1+length]
		root, ok := provenRoot(n, i, leaf, proof)
		if ok != (length == required) {
			t.Fatalf("the test's own recursion: length %d for leaf %d of %d", length, i, n)
		}
		expectVerify(t, ok, root, n, i, leaf, proof)
		expectVerify(t, false, hashes[from+1], n, i, leaf, proof)
		if length == required {
			continue
		}
		expectVerify(t, false, leaf, n, i, leaf, proof)
		if length > required {
			beginning, _ := provenRoot(n, i, leaf, proof[:required])
			expectVerify(t, false, beginning, n, i, leaf, proof)
			end, _ := provenRoot(n, i, leaf, proof[length-required:])
			expectVerify(t, false, end, n, i, leaf, proof)
		}
	}
}

// The lengths that the recursion requires, at the ends of the range of n.
func TestRequiredLengths(t *testing.T) {
	for _, c := range []struct{ n, i, want int }{
		{1, 0, 0}, {2, 0, 1}, {2, 1, 1}, {3, 0, 2}, {3, 2, 1}, {5, 3, 3}, {5, 4, 1}, {6, 5, 2}, {7, 6, 2},
		{1 << 62, 0, 62}, {1 << 62, 1<<62 - 1, 62}, {1<<62 + 1, 0, 63}, {1<<62 + 1, 1 << 62, 1},
		{math.MaxInt, 0, 63}, {math.MaxInt, math.MaxInt - 1, 62}, {math.MaxInt - 1, math.MaxInt - 2, 62},
	} {
		leaf := leafAt(0)
		for length := range 70 {
			proof := leaves(length)
			root := leaf
			if length == c.want {
				root, _ = provenRoot(c.n, c.i, leaf, proof)
			}
			expectVerify(t, length == c.want, root, c.n, c.i, leaf, proof)
		}
	}
}

// P8.4

func TestReturnedProofsVerify(t *testing.T) {
	tree := treeOf(130)
	for n := 1; n <= 130; n++ {
		root, _ := tree.Root(n)
		for i := range n {
			proof, ok := tree.Proof(i, n)
			if !ok || !Verify(root, n, i, leafAt(i), proof) {
				t.Errorf("the proof of leaf %d of %d does not verify", i, n)
			}
		}
	}
}

// No single changed bit of the root, the leaf or the proof is accepted.
func TestChangedBits(t *testing.T) {
	tree := treeOf(21)
	for _, n := range []int{1, 2, 3, 4, 5, 8, 13, 21} {
		root, _ := tree.Root(n)
		for i := range n {
			proof, _ := tree.Proof(i, n)
			for bit := range 256 {
				expectVerify(t, false, flipped(root, bit), n, i, leafAt(i), proof)
				expectVerify(t, false, root, n, i, flipped(leafAt(i), bit), proof)
				for place := range proof {
					changed := slices.Clone(proof)
					changed[place] = flipped(changed[place], bit)
					expectVerify(t, false, root, n, i, leafAt(i), changed)
				}
			}
		}
	}
}

// flipped returns h with one bit changed.
func flipped(h api.Hash, bit int) api.Hash {
	h[bit/8] ^= 1 << (bit % 8)
	return h
}

// What one leaf's proof shows, it shows of no other leaf and of no other place.
func TestProofsOfOtherLeaves(t *testing.T) {
	tree := treeOf(33)
	for n := 1; n <= 33; n++ {
		root, _ := tree.Root(n)
		for i := range n {
			proof, _ := tree.Proof(i, n)
			for j := range n {
				if j == i {
					continue
				}
				expectVerify(t, false, root, n, j, leafAt(i), proof)
				expectVerify(t, false, root, n, i, leafAt(j), proof)
				expectVerify(t, false, root, n, j, leafAt(j), proof)
			}
		}
	}
}

// Shortened, lengthened and reordered proofs.
func TestOtherProofs(t *testing.T) {
	tree := treeOf(40)
	for n := 1; n <= 40; n++ {
		root, _ := tree.Root(n)
		for i := range n {
			leaf := leafAt(i)
			proof, _ := tree.Proof(i, n)
			for length := range proof {
				expectVerify(t, false, root, n, i, leaf, proof[:length])
				expectVerify(t, false, root, n, i, leaf, proof[length+1:])
			}
			for _, extra := range []api.Hash{{}, root, leaf, leafAt(99)} {
				expectVerify(t, false, root, n, i, leaf, append(slices.Clone(proof), extra))
				expectVerify(t, false, root, n, i, leaf, append([]api.Hash{extra}, proof...))
			}
			for place := 1; place < len(proof); place++ {
				swapped := slices.Clone(proof)
				swapped[place-1], swapped[place] = swapped[place], swapped[place-1]
				expectVerify(t, false, root, n, i, leaf, swapped)
			}
		}
	}
}

// An inner node is not a leaf: its place does not exist in a tree with this many
// leaves.
func TestInnerNodesAreNotLeaves(t *testing.T) {
	l := leaves(4)
	root := specifiedRoot(l)
	left, right := nodeOf(l[0], l[1]), nodeOf(l[2], l[3])
	for i := range 4 {
		expectVerify(t, false, root, 4, i, left, []api.Hash{right})
		expectVerify(t, false, root, 4, i, right, []api.Hash{left})
		expectVerify(t, false, root, 4, i, root, nil)
	}
}

// The general rules

func TestNilTree(t *testing.T) {
	var tree *Tree
	if index := tree.Append(leafAt(1)); index != 0 {
		t.Errorf("Append: %d", index)
	}
	if length := tree.Len(); length != 0 {
		t.Errorf("Len: %d", length)
	}
	for _, n := range extremes() {
		expectNoRoot(t, tree, n)
		for _, i := range extremes() {
			expectNoProof(t, tree, i, n)
		}
	}
}

func TestArgumentsAreLeftAlone(t *testing.T) {
	whole := leaves(80)
	for length := range 40 {
		RootOf(whole[:length])
		for i := range 20 {
			Verify(leafAt(0), 20, i, leafAt(1), whole[:length])
			Verify(leafAt(0), math.MaxInt, i, leafAt(1), whole[:length])
		}
	}
	if !slices.Equal(whole, leaves(80)) {
		t.Error("an argument or its capacity was changed")
	}
}

// The hashes behind the length of a slice do not count.
func TestCapacityDoesNotCount(t *testing.T) {
	whole := leaves(40)
	for length := range 40 {
		short := slices.Clone(whole[:length:length])
		if RootOf(whole[:length]) != RootOf(short) {
			t.Errorf("RootOf %d leaves of a longer slice", length)
		}
	}
	root, proof := specifiedRoot(whole), specifiedProof(whole, 5)
	for length := range proof {
		expectVerify(t, false, root, 40, 5, leafAt(5), proof[:length])
	}
	expectVerify(t, true, root, 40, 5, leafAt(5), proof[:len(proof):len(proof)])
}

// A changed result changes neither the tree nor another result.
func TestResultsShareNoMemory(t *testing.T) {
	tree, l := treeOf(23), leaves(23)
	for n := 1; n <= 23; n++ {
		for i := range n {
			first, _ := tree.Proof(i, n)
			second, _ := tree.Proof(i, n)
			first = first[:cap(first)]
			for place := range first {
				first[place] = api.Hash(bytes.Repeat([]byte{255}, 32))
			}
			if !slices.Equal(second, specifiedProof(l[:n], i)) {
				t.Errorf("two proofs of leaf %d of %d share memory", i, n)
			}
			expectProof(t, tree, i, n, specifiedProof(l[:n], i))
		}
		expectRoot(t, tree, n, specifiedRoot(l[:n]))
	}
}

func TestRootsAndProofsAddNothing(t *testing.T) {
	tree := New()
	for i := range 30 {
		for n := -1; n <= i+1; n++ {
			tree.Root(n)
			tree.Proof(n-1, n)
			tree.Proof(0, n)
		}
		if index := tree.Append(leafAt(i)); index != i || tree.Len() != i+1 {
			t.Fatalf("Append: %d, want %d", index, i)
		}
	}
	expectRoot(t, tree, 30, specifiedRoot(leaves(30)))
}

func TestConcurrentCalls(t *testing.T) {
	l := leaves(100)
	root, proof := specifiedRoot(l), specifiedProof(l, 63)
	var group sync.WaitGroup
	for range 8 {
		group.Go(func() {
			for range 20 {
				if RootOf(l) != root || !Verify(root, 100, 63, l[63], proof) || Verify(root, 100, 62, l[63], proof) {
					t.Error("concurrent calls disturb each other")
				}
			}
		})
	}
	group.Wait()
}

func BenchmarkRootAfterAppend(b *testing.B) {
	tree := New()
	for b.Loop() {
		tree.Append(api.Hash{1})
		tree.Root(tree.Len())
	}
}

func BenchmarkProof(b *testing.B) {
	tree := treeOf(5000)
	for b.Loop() {
		tree.Proof(1234, 5000)
	}
}

func BenchmarkVerify(b *testing.B) {
	tree := treeOf(5000)
	root, _ := tree.Root(5000)
	proof, _ := tree.Proof(1234, 5000)
	for b.Loop() {
		Verify(root, 5000, 1234, leafAt(1234), proof)
	}
}
