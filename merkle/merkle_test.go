package merkle_test

import (
	"bytes"
	"crypto/sha256"
	"encoding/hex"
	"math"
	"math/rand/v2"
	"slices"
	"testing"

	"lightclient/api"
	"lightclient/merkle"
)

var zero = api.Hash{}

// counts are the numbers of leaves at which a level begins or ends, with their neighbours.
var counts = []int{
	1, 2, 3, 4, 5, 6, 7, 8, 9, 10, 11, 12, 13, 15, 16, 17, 31, 32, 33, 63, 64, 65, 127, 128, 129,
	255, 256, 257, 511, 512, 513, 767, 768, 769, api.MaxLeaves - 2, api.MaxLeaves - 1, api.MaxLeaves,
}

// notCounts are numbers that no tree has as that of its leaves.
var notCounts = []int{0, -1, -2, -api.MaxLeaves, math.MinInt, math.MinInt32, api.MaxLeaves + 1, 2 * api.MaxLeaves, 1 << 32, 1<<32 + 1, math.MaxInt32, math.MaxInt - 1, math.MaxInt}

// leaf returns a digest that no other index has.
func leaf(i int) api.Hash { return api.Hash(sha256.Sum256([]byte{byte(i), byte(i >> 8)})) }

// row returns the first n leaves.
func row(n int) []api.Hash {
	l := make([]api.Hash, n)
	for i := range l {
		l[i] = leaf(i)
	}
	return l
}

// join returns the digest of a node with two kids.
func join(l, r api.Hash) api.Hash {
	return api.Hash(sha256.Sum256(bytes.Join([][]byte{{1}, l[:], r[:]}, nil)))
}

// flags returns a list of flags from a text of zeros and ones.
func flags(s string) []bool {
	l := []bool{}
	for _, c := range s {
		l = append(l, c == '1')
	}
	return l
}

// subset returns a list of n flags, from the bits of a number.
func subset(n int, set uint64) []bool {
	l := make([]bool, n)
	for i := range l {
		l[i] = set>>i&1 == 1
	}
	return l
}

// levels returns the levels that the chapter defines, the leaves first.
func levels(l []api.Hash) [][]api.Hash {
	all := [][]api.Hash{l}
	for len(l) > 1 {
		up := make([]api.Hash, (len(l)+1)/2)
		for i := range up {
			up[i] = l[2*i]
			if 2*i+1 < len(l) {
				up[i] = join(l[2*i], l[2*i+1])
			}
		}
		all = append(all, up)
		l = up
	}
	return all
}

// root returns the node of the last level.
func root(l []api.Hash) api.Hash {
	all := levels(l)
	return all[len(all)-1][0]
}

// path does what P7.2 says.
func path(l []api.Hash, i int) api.Path { return pathIn(levels(l), i) }

// pathIn does it in a tree whose levels are known.
func pathIn(all [][]api.Hash, i int) api.Path {
	p := api.Path{Count: len(all[0]), Index: i}
	for _, level := range all[:len(all)-1] {
		if other := i + 1 - i%2*2; other < len(level) {
			p.Hashes = append(p.Hashes, level[other])
		}
		i /= 2
	}
	return p
}

// part does what P7.4 says.
func part(l []api.Hash, wanted []bool) api.Partial {
	p := api.Partial{Count: len(l)}
	digests := levels(l)
	below := [][]bool{wanted}
	for _, level := range digests[1:] {
		last, up := below[len(below)-1], make([]bool, len(level))
		for i, b := range last {
			up[i/2] = up[i/2] || b
		}
		below = append(below, up)
	}
	var visit func(level, i int)
	visit = func(level, i int) {
		p.Flags = append(p.Flags, below[level][i])
		if !below[level][i] || level == 0 {
			p.Hashes = append(p.Hashes, digests[level][i])
			return
		}
		for kid := 2 * i; kid <= 2*i+1 && kid < len(digests[level-1]); kid++ {
			visit(level-1, kid)
		}
	}
	visit(len(digests)-1, 0)
	return p
}

// extract does what P7.5 says, for a Count that there is and not too many flags and digests.
func extract(p api.Partial) (h api.Hash, found []api.Leaf, e api.Errno) {
	defer func() {
		if stop, ok := recover().(api.Errno); ok {
			h, found, e = zero, nil, stop
		}
	}()
	widths := []int{p.Count}
	for m := p.Count; m > 1; {
		m = (m + 1) / 2
		widths = append(widths, m)
	}
	flag, digest := 0, 0
	var visit func(level, i int) (api.Hash, bool)
	visit = func(level, i int) (api.Hash, bool) {
		if flag == len(p.Flags) {
			panic(api.ErrShort)
		}
		flag++
		if own := p.Flags[flag-1]; !own || level == 0 {
			if digest == len(p.Hashes) {
				panic(api.ErrShort)
			}
			digest++
			if own {
				found = append(found, api.Leaf{Index: i, Hash: p.Hashes[digest-1]})
			}
			return p.Hashes[digest-1], own
		}
		h, ok := visit(level-1, 2*i)
		if 2*i+1 < widths[level-1] {
			r, also := visit(level-1, 2*i+1)
			h, ok = join(h, r), ok || also
		}
		if !ok {
			panic(api.ErrCanonical)
		}
		return h, true
	}
	h, _ = visit(len(widths)-1, 0)
	if flag < len(p.Flags) || digest < len(p.Hashes) {
		return zero, nil, api.ErrTrailing
	}
	return h, found, api.OK
}

// samePath reports whether two paths are the same.
func samePath(p, q api.Path) bool {
	return p.Count == q.Count && p.Index == q.Index && slices.Equal(p.Hashes, q.Hashes)
}

// samePart reports whether two parts are the same.
func samePart(p, q api.Partial) bool {
	return p.Count == q.Count && slices.Equal(p.Flags, q.Flags) && slices.Equal(p.Hashes, q.Hashes)
}

// some returns the indices up to n, or only those at the ends and between the parts of a tree if they are many.
func some(n int) []int {
	var l []int
	for i := range n {
		if n <= 65 || i < 2 || i >= n-2 || i&(i+1) == 0 || i&(i-1) == 0 {
			l = append(l, i)
		}
	}
	return l
}

// choices returns lists of n flags: none, all, each one of some alone and each one of them missing, and others.
func choices(n int) [][]bool {
	all := slices.Repeat([]bool{true}, n)
	l := [][]bool{make([]bool, n), all}
	for _, i := range some(n) {
		one, rest := make([]bool, n), slices.Clone(all)
		one[i], rest[i] = true, false
		l = append(l, one, rest)
	}
	r := rand.New(rand.NewPCG(7, uint64(n)))
	for _, odds := range []int{2, 3, 10, 50} {
		mixed := make([]bool, n)
		for i := range mixed {
			mixed[i] = r.IntN(odds) == 0
		}
		l = append(l, mixed)
	}
	return l
}

// wantedLeaves returns the leaves whose flags are true.
func wantedLeaves(l []api.Hash, wanted []bool) []api.Leaf {
	var found []api.Leaf
	for i, h := range l {
		if wanted[i] {
			found = append(found, api.Leaf{Index: i, Hash: h})
		}
	}
	return found
}

// P7.1: values from another implementation.
func TestNode(t *testing.T) {
	var low, high api.Hash
	for i := range low {
		low[i], high[i] = byte(i+1), byte(i+33)
	}
	ones := api.Hash(bytes.Repeat([]byte{255}, 32))
	for name, c := range map[string]struct {
		l, r api.Hash
		want string
	}{
		"zeros":          {zero, zero, "ae0798d0ecaed2b778eddebf18f071a561c53658c05e76cedecc27cafbdbc577"},
		"ones":           {ones, ones, "1f94c635f1e71c09c04eddf83bf07f5b7f1ad772e98df90349f9054c403a0cfc"},
		"1 to 64":        {low, high, "feda156c7c8740836406ed27ac45ea11e2b382ac3297be2beef6364ecef78234"},
		"33 to 64, to 1": {high, low, "4272a1df0480b973447aa96253a6721dabce798cf53e47b90b1c3f0d06feece8"},
	} {
		if got := merkle.Node(c.l, c.r); hex.EncodeToString(got[:]) != c.want {
			t.Errorf("Node of %s = %x, want %s", name, got, c.want)
		}
	}
	for i := range 100 {
		l, r := leaf(i), leaf(1000+i)
		if got := merkle.Node(l, r); got != join(l, r) {
			t.Errorf("Node(%x, %x) = %x", l, r, got)
		}
	}
}

// P7.1: roots from another implementation.
func TestRootOfEdges(t *testing.T) {
	for n, want := range map[int]string{
		0:    "0000000000000000000000000000000000000000000000000000000000000000",
		1:    "96a296d224f285c67bee93c30f8a309157f0daa35dc5b87e410b78630a09cfc7",
		2:    "32f7a8f42c6344bacf74e48f199dc6636e1d80465a42dd36bfe1b2f0d5148b3c",
		3:    "1666f8124e541449b6a2184000b1d847df1556007e867e3ee8a64f482f308675",
		4:    "ca323d07a3115bac31a52e063c13b513a6920a4798cdff81504ec0e8ea2b9b46",
		5:    "19b2fc02b2717a90e34830a0a9e184cf26aa9e4916fed161af0f13c5da290174",
		6:    "e21246508a8f4d0a62893bf7b68fb4aac4e72c4506be2519f3ba9b75a8694068",
		7:    "4c83345d27ad7234df1110b44ab130c29e8b3c4ce264fb0814d1f5a362d657fb",
		8:    "d3c48a33094b14e05f069240a9593b272217fe8e97a6863e3fc7ba148bf2625c",
		9:    "de83e2fecdff7776a28f23eab4c2b72d9077609d03faafd99e347941399bc67f",
		15:   "a8171523f3851cd3cf6a066a9108a3ec4f3a96d8793f81b7ab6a1fd82aeab506",
		16:   "806934832fdda08fedba61c8a90c8666d3933236b856fe7489ab7cd911f5f91f",
		17:   "070dd3439adacc5249d611ee0ca005845984bcf8f3cfbea4ed2e0db76fea4766",
		31:   "2e09b4a87cb40eefb63e4adb0a8d6fae1e0843d9e679522b0e7df369c3cc341a",
		32:   "68f62787a1fe02c638ef2ab63a6e98eb6d80c995cf8a851d8ae54f0f30360210",
		33:   "d988aef9f6211a537bdad6e2005ab1b55fcb32b8cda6a67ccf29699dedcfe1e2",
		63:   "13d28f48337e92af0bc3e4280349059374385e370bd90597728161d12c6b6df4",
		64:   "25925e85756eb5ea9891303119071fcb4969cad293dcd65de0fd2d3ba5307558",
		65:   "b34998c77bf152b39654b0fd3eb7605fc23f827600c4486f2f3c229a2cea2fd1",
		255:  "5c9002742bf6d277ca4e0e31876c72f2d8e95f958b328cb3c1aba71b27a4e1e4",
		256:  "fb1c6a06e8a8c91e1c48035cba5a31d13a5e4b1683ea9319c404270dba5c9cee",
		257:  "db3791c7d82e02bb10cea389f50637bd0a10a9497d8c65d1cba47ac7b8d7a844",
		512:  "89ea42200973f674c57d97c26dc6da252c6cff0bf4873300c816ade609e991d3",
		513:  "3c1525523a8d24a4bb75c71818e5285afa40dbd23436b503c09132020f34f73b",
		769:  "aae7656100a391993cbdeb7b65c6cc7bca7e226a9b058501c25a0ad904696227",
		1023: "e07918bad66d403fd031b34ee3f35fc1ecf5558dff8dadfdae80e5a24b28269e",
		1024: "eb55afc4d4cfaa9dd6320afcb23e49796726ce3bce373af15cc9418d173fb6fa",
		1025: "0000000000000000000000000000000000000000000000000000000000000000",
		1026: "0000000000000000000000000000000000000000000000000000000000000000",
		2048: "0000000000000000000000000000000000000000000000000000000000000000",
		9999: "0000000000000000000000000000000000000000000000000000000000000000",
	} {
		if got := merkle.Root(row(n)); hex.EncodeToString(got[:]) != want {
			t.Errorf("Root of %d leaves = %x, want %s", n, got, want)
		}
	}
	if merkle.Root(nil) != zero {
		t.Error("Root of nil is not zero")
	}
}

// P7.1: small trees, written out; those of one leaf and of three are the example.
func TestRootOfSmallTrees(t *testing.T) {
	l := row(9)
	ab, cd, ef, gh, i := join(l[0], l[1]), join(l[2], l[3]), join(l[4], l[5]), join(l[6], l[7]), l[8]
	for n, want := range map[int]api.Hash{
		1: l[0],
		2: ab,
		3: join(ab, l[2]),
		4: join(ab, cd),
		5: join(join(ab, cd), l[4]),
		6: join(join(ab, cd), ef),
		7: join(join(ab, cd), join(ef, l[6])),
		8: join(join(ab, cd), join(ef, gh)),
		9: join(join(join(ab, cd), join(ef, gh)), i),
	} {
		if got := merkle.Root(l[:n]); got != want {
			t.Errorf("Root of %d leaves = %x, want %x", n, got, want)
		}
	}
	if got := merkle.Root([]api.Hash{zero}); got != zero {
		t.Errorf("Root of the leaf 0 = %x", got)
	}
	if got, want := merkle.Root([]api.Hash{i, i, i}), merkle.Node(merkle.Node(i, i), i); got != want {
		t.Errorf("Root of a leaf three times = %x, want %x", got, want)
	}
}

// P7.1: all numbers of leaves up to several levels, and those at which a level ends.
func TestRootOfAllCounts(t *testing.T) {
	l := row(api.MaxLeaves)
	check := func(n int) {
		if got, want := merkle.Root(l[:n]), root(l[:n]); got != want {
			t.Errorf("Root of %d leaves = %x, want %x", n, got, want)
		}
	}
	for n := 1; n <= 200; n++ {
		check(n)
	}
	for _, n := range counts {
		check(n)
	}
}

// Definitions: an odd last node is not doubled, and every leaf and its place count.
func TestRootTellsListsApart(t *testing.T) {
	for _, n := range counts {
		l := row(n)
		before := merkle.Root(l)
		if n > 1 && n < api.MaxLeaves && merkle.Root(append(row(n), l[n-1])) == before {
			t.Errorf("%d leaves have the same root as with the last one twice", n)
		}
		for _, i := range some(n) {
			changed := row(n)
			changed[i][31] ^= 1
			if merkle.Root(changed) == before {
				t.Errorf("%d leaves have the same root with another leaf %d", n, i)
			}
			turned := row(n)
			turned[0], turned[i] = turned[i], turned[0]
			if i > 0 && merkle.Root(turned) == before {
				t.Errorf("%d leaves have the same root with the leaves 0 and %d exchanged", n, i)
			}
		}
	}
}

// P7.2: paths of small trees, written out; that of leaf 2 of three is the example.
func TestPathOfSmallTrees(t *testing.T) {
	l := row(9)
	ab, cd, ef, gh := join(l[0], l[1]), join(l[2], l[3]), join(l[4], l[5]), join(l[6], l[7])
	for _, c := range []struct {
		n, i int
		want []api.Hash
	}{
		{1, 0, nil},
		{2, 0, []api.Hash{l[1]}},
		{2, 1, []api.Hash{l[0]}},
		{3, 0, []api.Hash{l[1], l[2]}},
		{3, 1, []api.Hash{l[0], l[2]}},
		{3, 2, []api.Hash{ab}},
		{4, 2, []api.Hash{l[3], ab}},
		{5, 0, []api.Hash{l[1], cd, l[4]}},
		{5, 3, []api.Hash{l[2], ab, l[4]}},
		{5, 4, []api.Hash{join(ab, cd)}},
		{6, 1, []api.Hash{l[0], cd, ef}},
		{6, 4, []api.Hash{l[5], join(ab, cd)}},
		{6, 5, []api.Hash{l[4], join(ab, cd)}},
		{7, 2, []api.Hash{l[3], ab, join(ef, l[6])}},
		{7, 6, []api.Hash{ef, join(ab, cd)}},
		{8, 6, []api.Hash{l[7], ef, join(ab, cd)}},
		{9, 5, []api.Hash{l[4], gh, join(ab, cd), l[8]}},
		{9, 8, []api.Hash{join(join(ab, cd), join(ef, gh))}},
	} {
		want := api.Path{Count: c.n, Index: c.i, Hashes: c.want}
		if got, e := merkle.Path(l[:c.n], c.i); !samePath(got, want) || e != api.OK {
			t.Errorf("Path of leaf %d of %d = %x, %d, want %x", c.i, c.n, got, e, want)
		}
	}
}

// P7.2 and P7.3: the paths of all leaves, and where they lead.
func TestPathOfAllLeaves(t *testing.T) {
	for _, n := range counts {
		l := row(n)
		all := levels(l)
		top := all[len(all)-1][0]
		for i := range n {
			want := pathIn(all, i)
			if got, e := merkle.Path(l, i); !samePath(got, want) || e != api.OK {
				t.Errorf("Path of leaf %d of %d = %x, %d, want %x", i, n, got, e, want)
			}
			if got, e := merkle.Follow(want, l[i]); got != top || e != api.OK {
				t.Errorf("Follow(%d of %d) = %x, %d, want %x", i, n, got, e, top)
			}
		}
	}
}

// P7.2: errors, and their order.
func TestPathErrors(t *testing.T) {
	for _, c := range []struct {
		n, i int
		want api.Errno
	}{
		{0, -1, api.ErrRange}, {0, 0, api.ErrRange}, {0, 1, api.ErrRange},
		{1, -1, api.ErrRange}, {1, 1, api.ErrRange}, {1, 2, api.ErrRange},
		{3, -1, api.ErrRange}, {3, 3, api.ErrRange}, {3, 4, api.ErrRange},
		{4, 4, api.ErrRange}, {5, math.MinInt, api.ErrRange}, {5, math.MaxInt, api.ErrRange}, {5, 1 << 32, api.ErrRange},
		{api.MaxLeaves, -1, api.ErrRange}, {api.MaxLeaves, api.MaxLeaves, api.ErrRange},
		{api.MaxLeaves + 1, 0, api.ErrLimit}, {api.MaxLeaves + 1, api.MaxLeaves, api.ErrLimit}, {2 * api.MaxLeaves, 5, api.ErrLimit},
		{api.MaxLeaves + 1, -1, api.ErrLimit}, {api.MaxLeaves + 1, api.MaxLeaves + 1, api.ErrLimit}, {api.MaxLeaves + 1, math.MaxInt, api.ErrLimit},
	} {
		if got, e := merkle.Path(row(c.n), c.i); !samePath(got, api.Path{}) || e != c.want {
			t.Errorf("Path of leaf %d of %d = %x, %d, want %d", c.i, c.n, got, e, c.want)
		}
	}
}

// P7.3: paths of small trees, written out.
func TestFollowInSmallTrees(t *testing.T) {
	l := row(9)
	a, b, c, d := l[0], l[1], l[2], l[3]
	for _, x := range []struct {
		p    api.Path
		want api.Hash
	}{
		{api.Path{Count: 1}, l[8]},
		{api.Path{Count: 2, Index: 0, Hashes: []api.Hash{a}}, join(l[8], a)},
		{api.Path{Count: 2, Index: 1, Hashes: []api.Hash{a}}, join(a, l[8])},
		{api.Path{Count: 3, Index: 0, Hashes: []api.Hash{a, b}}, join(join(l[8], a), b)},
		{api.Path{Count: 3, Index: 1, Hashes: []api.Hash{a, b}}, join(join(a, l[8]), b)},
		{api.Path{Count: 3, Index: 2, Hashes: []api.Hash{a}}, join(a, l[8])},
		{api.Path{Count: 4, Index: 2, Hashes: []api.Hash{a, b}}, join(b, join(l[8], a))},
		{api.Path{Count: 4, Index: 3, Hashes: []api.Hash{a, b}}, join(b, join(a, l[8]))},
		{api.Path{Count: 5, Index: 4, Hashes: []api.Hash{a}}, join(a, l[8])},
		{api.Path{Count: 6, Index: 4, Hashes: []api.Hash{a, b}}, join(b, join(l[8], a))},
		{api.Path{Count: 7, Index: 6, Hashes: []api.Hash{a, b}}, join(b, join(a, l[8]))},
		{api.Path{Count: 9, Index: 3, Hashes: []api.Hash{a, b, c, d}}, join(join(join(b, join(a, l[8])), c), d)},
		{api.Path{Count: 9, Index: 8, Hashes: []api.Hash{a}}, join(a, l[8])},
		{api.Path{Count: 3, Index: 2, Hashes: []api.Hash{l[8]}}, join(l[8], l[8])},
	} {
		if got, e := merkle.Follow(x.p, l[8]); got != x.want || e != api.OK {
			t.Errorf("Follow(%d of %d) = %x, %d, want %x", x.p.Index, x.p.Count, got, e, x.want)
		}
	}
}

// P7.3 and Consequences: a path leads from its leaf to the root, and from another leaf, by another digest or from another place elsewhere.
func TestFollowPath(t *testing.T) {
	for _, n := range counts {
		l := row(n)
		want := root(l)
		lengths := map[int]int{}
		for _, i := range some(n) {
			lengths[i] = len(path(l, i).Hashes)
		}
		for _, i := range some(n) {
			p, _ := merkle.Path(l, i)
			if got, e := merkle.Follow(p, l[i]); got != want || e != api.OK {
				t.Errorf("Follow(%d of %d) = %x, %d, want %x", i, n, got, e, want)
			}
			if got, e := merkle.Follow(p, leaf(5000)); got == want || e != api.OK {
				t.Errorf("Follow(%d of %d) of another leaf = %x, %d", i, n, got, e)
			}
			for j := range p.Hashes {
				q := api.Path{Count: n, Index: i, Hashes: slices.Clone(p.Hashes)}
				q.Hashes[j][0] ^= 128
				if got, e := merkle.Follow(q, l[i]); got == want || e != api.OK {
					t.Errorf("Follow(%d of %d) with another digest %d = %x, %d", i, n, j, got, e)
				}
			}
			for _, j := range some(n) {
				q := api.Path{Count: n, Index: j, Hashes: p.Hashes}
				got, e := merkle.Follow(q, l[i])
				if fits := lengths[j] == len(q.Hashes); fits != (e == api.OK) || !fits && e != api.ErrArity || i != j && got == want {
					t.Errorf("Follow(%d of %d) from %d = %x, %d", i, n, j, got, e)
				}
			}
		}
	}
}

// P7.3: numbers out of range come first, however many digests there are.
func TestFollowOutOfRange(t *testing.T) {
	check := func(count, index int) {
		t.Helper()
		for digests := range 12 {
			p := api.Path{Count: count, Index: index, Hashes: row(digests)}
			if h, e := merkle.Follow(p, leaf(0)); h != zero || e != api.ErrRange {
				t.Errorf("Follow(%d of %d, %d digests) = %x, %d", index, count, digests, h, e)
			}
		}
	}
	for _, count := range notCounts {
		for _, index := range []int{math.MinInt, -1, 0, 1, count - 1, count} {
			check(count, index)
		}
	}
	for _, count := range counts {
		for _, index := range []int{math.MinInt, -count, -1, count, count + 1, count + 2, 2 * count, 1 << 32, math.MaxInt} {
			check(count, index)
		}
	}
}

// P7.3: one digest too few, too many, and far too many; also for leaves that are carried up.
func TestFollowArity(t *testing.T) {
	for _, n := range counts {
		l := row(n)
		for _, i := range some(n) {
			right := len(path(l, i).Hashes)
			for _, digests := range []int{0, right - 1, right + 1, right + 2, 10, 11, 100, 5000} {
				if digests < 0 || digests == right {
					continue
				}
				p := api.Path{Count: n, Index: i, Hashes: row(digests)}
				if h, e := merkle.Follow(p, l[i]); h != zero || e != api.ErrArity {
					t.Errorf("Follow(%d of %d, %d digests) = %x, %d, want %d", i, n, digests, h, e, api.ErrArity)
				}
			}
		}
	}
	for _, c := range []struct{ n, i, digests int }{{1, 0, 1}, {2, 1, 0}, {2, 1, 2}, {3, 2, 0}, {3, 2, 2}, {5, 4, 0}, {5, 4, 2}, {5, 4, 3}, {9, 8, 0}, {9, 8, 4}, {1024, 0, 9}, {1024, 1023, 11}, {1023, 1022, 10}, {1023, 1022, 8}} {
		p := api.Path{Count: c.n, Index: c.i, Hashes: row(c.digests)}
		if h, e := merkle.Follow(p, leaf(0)); h != zero || e != api.ErrArity {
			t.Errorf("Follow(%d of %d, %d digests) = %x, %d, want %d", c.i, c.n, c.digests, h, e, api.ErrArity)
		}
	}
}

// P7.4: parts of small trees, written out; the one without wanted leaves is the example.
func TestPartOfSmallTrees(t *testing.T) {
	l := row(9)
	ab, cd, ef, gh := join(l[0], l[1]), join(l[2], l[3]), join(l[4], l[5]), join(l[6], l[7])
	abcd := join(ab, cd)
	for _, c := range []struct {
		wanted, flags string
		hashes        []api.Hash
	}{
		{"0", "0", l[:1]},
		{"1", "1", l[:1]},
		{"00", "0", []api.Hash{ab}},
		{"10", "110", l[:2]},
		{"01", "101", l[:2]},
		{"11", "111", l[:2]},
		{"000", "0", []api.Hash{join(ab, l[2])}},
		{"100", "11100", l[:3]},
		{"010", "11010", l[:3]},
		{"110", "11110", l[:3]},
		{"001", "1011", []api.Hash{ab, l[2]}},
		{"101", "111011", l[:3]},
		{"011", "110111", l[:3]},
		{"111", "111111", l[:3]},
		{"0100", "11010", []api.Hash{l[0], l[1], cd}},
		{"0010", "10110", []api.Hash{ab, l[2], l[3]}},
		{"1111", "1111111", l[:4]},
		{"00010", "1101010", []api.Hash{ab, l[2], l[3], l[4]}},
		{"00001", "10111", []api.Hash{abcd, l[4]}},
		{"11111", "11111111111", l[:5]},
		{"000001", "101101", []api.Hash{abcd, l[4], l[5]}},
		{"0000001", "101011", []api.Hash{abcd, ef, l[6]}},
		{"000000001", "101111", []api.Hash{join(abcd, join(ef, gh)), l[8]}},
		{"000000000", "0", []api.Hash{join(join(abcd, join(ef, gh)), l[8])}},
		{"010000010", "1111010101010", []api.Hash{l[0], l[1], cd, ef, l[6], l[7], l[8]}},
	} {
		n := len(c.wanted)
		want := api.Partial{Count: n, Flags: flags(c.flags), Hashes: c.hashes}
		if got, e := merkle.Part(l[:n], flags(c.wanted)); !samePart(got, want) || e != api.OK {
			t.Errorf("Part of %s = %v, %d, want %v", c.wanted, got, e, want)
		}
	}
}

// P7.4: all choices of wanted leaves in small trees, and some in all others.
func TestPartOfAllChoices(t *testing.T) {
	check := func(l []api.Hash, wanted []bool) {
		if got, e := merkle.Part(l, wanted); !samePart(got, part(l, wanted)) || e != api.OK {
			t.Errorf("Part of %d leaves, wanted %v = %v, %d, want %v", len(l), wanted, got, e, part(l, wanted))
		}
	}
	for n := 1; n <= 9; n++ {
		for set := range uint64(1) << n {
			check(row(n), subset(n, set))
		}
	}
	for _, n := range counts {
		for _, wanted := range choices(n) {
			check(row(n), wanted)
		}
	}
}

// P7.4: how long the lists of the greatest tree are.
func TestPartOfMaxLeaves(t *testing.T) {
	const n = api.MaxLeaves
	one := make([]bool, n)
	one[700] = true
	for name, c := range map[string]struct {
		wanted         []bool
		flags, digests int
	}{
		"none": {make([]bool, n), 1, 1},
		"one":  {one, 21, 11},
		"all":  {slices.Repeat([]bool{true}, n), 2*n - 1, n},
	} {
		p, e := merkle.Part(row(n), c.wanted)
		if len(p.Flags) != c.flags || len(p.Hashes) != c.digests || p.Count != n || e != api.OK {
			t.Errorf("Part with %s wanted has %d flags and %d digests, %d", name, len(p.Flags), len(p.Hashes), e)
		}
	}
}

// P7.4: errors, and their order.
func TestPartErrors(t *testing.T) {
	const most = api.MaxLeaves
	for _, c := range []struct {
		leaves, wanted int
		want           api.Errno
	}{
		{0, 0, api.ErrEmpty}, {0, 1, api.ErrEmpty}, {0, most + 1, api.ErrEmpty},
		{1, 0, api.ErrArity}, {1, 2, api.ErrArity}, {3, 0, api.ErrArity}, {3, 2, api.ErrArity}, {3, 4, api.ErrArity}, {3, 9999, api.ErrArity},
		{most, 0, api.ErrArity}, {most, most - 1, api.ErrArity}, {most, most + 1, api.ErrArity},
		{most + 1, most + 1, api.ErrLimit}, {2 * most, 2 * most, api.ErrLimit},
		{most + 1, most, api.ErrLimit}, {most + 1, most + 2, api.ErrLimit}, {most + 1, 0, api.ErrLimit},
	} {
		for _, flag := range []bool{false, true} {
			wanted := slices.Repeat([]bool{flag}, c.wanted)
			if p, e := merkle.Part(row(c.leaves), wanted); !samePart(p, api.Partial{}) || e != c.want {
				t.Errorf("Part of %d leaves, %d times wanted %v = %v, %d, want %d", c.leaves, c.wanted, flag, p, e, c.want)
			}
		}
	}
	if p, e := merkle.Part(nil, nil); !samePart(p, api.Partial{}) || e != api.ErrEmpty {
		t.Errorf("Part of nil = %v, %d", p, e)
	}
	if p, e := merkle.Part(row(1), nil); !samePart(p, api.Partial{}) || e != api.ErrArity {
		t.Errorf("Part of a leaf and nil = %v, %d", p, e)
	}
}

// P7.5: parts of small trees, written out; the digests are the first leaves.
func TestExtractOfSmallParts(t *testing.T) {
	l := row(9)
	a, b, c, d := l[0], l[1], l[2], l[3]
	for _, x := range []struct {
		count  int
		flags  string
		hashes int
		want   api.Hash
		found  []api.Leaf
	}{
		{1, "0", 1, a, nil},
		{1, "1", 1, a, []api.Leaf{{Index: 0, Hash: a}}},
		{2, "0", 1, a, nil},
		{2, "110", 2, join(a, b), []api.Leaf{{Index: 0, Hash: a}}},
		{2, "101", 2, join(a, b), []api.Leaf{{Index: 1, Hash: b}}},
		{3, "1011", 2, join(a, b), []api.Leaf{{Index: 2, Hash: b}}},
		{3, "11010", 3, join(join(a, b), c), []api.Leaf{{Index: 1, Hash: b}}},
		{3, "111111", 3, join(join(a, b), c), []api.Leaf{{Index: 0, Hash: a}, {Index: 1, Hash: b}, {Index: 2, Hash: c}}},
		{4, "10110", 3, join(a, join(b, c)), []api.Leaf{{Index: 2, Hash: b}}},
		{5, "10111", 2, join(a, b), []api.Leaf{{Index: 4, Hash: b}}},
		{5, "1101010", 4, join(join(a, join(b, c)), d), []api.Leaf{{Index: 3, Hash: c}}},
		{6, "101101", 3, join(a, join(b, c)), []api.Leaf{{Index: 5, Hash: c}}},
		{7, "101011", 3, join(a, join(b, c)), []api.Leaf{{Index: 6, Hash: c}}},
		{9, "101111", 2, join(a, b), []api.Leaf{{Index: 8, Hash: b}}},
		{api.MaxLeaves, "0", 1, a, nil},
	} {
		p := api.Partial{Count: x.count, Flags: flags(x.flags), Hashes: l[:x.hashes]}
		if h, found, e := merkle.Extract(p); h != x.want || !slices.Equal(found, x.found) || e != api.OK {
			t.Errorf("Extract(%d, %s) = %x, %v, %d, want %x, %v", x.count, x.flags, h, found, e, x.want, x.found)
		}
	}
}

// checkRefused tells that Extract gives an error and nothing else.
func checkRefused(t *testing.T, p api.Partial, want api.Errno) {
	t.Helper()
	if h, found, e := merkle.Extract(p); h != zero || len(found) != 0 || e != want {
		t.Errorf("Extract(%d, %d flags %.20v, %d digests) = %x, %v, %d, want %d", p.Count, len(p.Flags), p.Flags, len(p.Hashes), h, found, e, want)
	}
}

// P7.5: the first error on the way, also where another one would follow, and those at the end.
func TestExtractErrors(t *testing.T) {
	for _, c := range []struct {
		count  int
		flags  string
		hashes int
		want   api.Errno
	}{
		// No flag is left.
		{1, "", 0, api.ErrShort}, {1, "", 1, api.ErrShort}, {2, "", 5, api.ErrShort}, {api.MaxLeaves, "", 0, api.ErrShort},
		{2, "1", 2, api.ErrShort}, {2, "11", 2, api.ErrShort}, {2, "10", 2, api.ErrShort}, {3, "10", 2, api.ErrShort},
		{3, "101", 2, api.ErrShort}, {3, "1111", 3, api.ErrShort}, {5, "101", 2, api.ErrShort}, {5, "1011", 2, api.ErrShort},
		// No digest is left.
		{1, "0", 0, api.ErrShort}, {1, "1", 0, api.ErrShort}, {2, "0", 0, api.ErrShort}, {2, "111", 0, api.ErrShort},
		{2, "111", 1, api.ErrShort}, {2, "110", 1, api.ErrShort}, {3, "1011", 1, api.ErrShort}, {3, "111111", 2, api.ErrShort},
		// A true flag above kids that have none, or above one that is carried up.
		{2, "100", 2, api.ErrCanonical}, {3, "11000", 3, api.ErrCanonical}, {3, "100", 2, api.ErrCanonical}, {3, "1010", 2, api.ErrCanonical},
		{3, "111010", 3, api.ErrCanonical}, {4, "100", 2, api.ErrCanonical}, {4, "1101100", 4, api.ErrCanonical}, {4, "1100111", 4, api.ErrCanonical},
		{5, "1010", 2, api.ErrCanonical}, {5, "10110", 2, api.ErrCanonical}, {9, "101110", 2, api.ErrCanonical}, {9, "1010", 2, api.ErrCanonical},
		// Flags or digests are left.
		{1, "00", 1, api.ErrTrailing}, {1, "11", 1, api.ErrTrailing}, {1, "1", 2, api.ErrTrailing}, {1, "0", 2, api.ErrTrailing}, {1, "10", 2, api.ErrTrailing},
		{2, "1111", 2, api.ErrTrailing}, {2, "111", 3, api.ErrTrailing}, {2, "00", 1, api.ErrTrailing}, {2, "0", 2, api.ErrTrailing},
		{2, "0111", 3, api.ErrTrailing}, {3, "10111", 2, api.ErrTrailing}, {3, "1011", 3, api.ErrTrailing}, {5, "101111", 2, api.ErrTrailing},
		// Two faults: no digest is left before the kids have been visited, whose flags are false.
		{2, "100", 1, api.ErrShort}, {2, "100", 0, api.ErrShort}, {3, "1010", 1, api.ErrShort}, {2, "10", 1, api.ErrShort},
		// Two faults: the kids have been visited before the flags or the digests end.
		{4, "1100", 2, api.ErrCanonical}, {4, "11000", 2, api.ErrCanonical}, {4, "1100", 9, api.ErrCanonical}, {5, "11100", 2, api.ErrCanonical}, {3, "1100", 2, api.ErrCanonical},
		// Two faults: flags or digests would be left.
		{2, "1001", 2, api.ErrCanonical}, {2, "100", 3, api.ErrCanonical}, {2, "1000", 9, api.ErrCanonical}, {3, "10101", 3, api.ErrCanonical},
		{2, "11", 9, api.ErrShort}, {1, "111", 0, api.ErrShort}, {3, "1111111111", 2, api.ErrShort}, {2, "", 9, api.ErrShort},
	} {
		checkRefused(t, api.Partial{Count: c.count, Flags: flags(c.flags), Hashes: row(c.hashes)}, c.want)
	}
	checkRefused(t, api.Partial{Count: 1}, api.ErrShort)
}

// P7.5: a Count that no tree has comes before all else, and too many flags or digests before what is on the way.
func TestExtractLimits(t *testing.T) {
	const most = 4 * api.MaxLeaves
	for _, count := range notCounts {
		for _, size := range []int{0, 1, 3, most, most + 1} {
			for _, flag := range []bool{false, true} {
				checkRefused(t, api.Partial{Count: count, Flags: slices.Repeat([]bool{flag}, size), Hashes: row(size)}, api.ErrRange)
			}
		}
	}
	for _, c := range []struct {
		count, flags, hashes int
		want                 api.Errno
	}{
		{1, most + 1, 0, api.ErrLimit}, {1, most + 1, 1, api.ErrLimit}, {1, 0, most + 1, api.ErrLimit}, {1, 1, most + 1, api.ErrLimit},
		{2, most + 1, 2, api.ErrLimit}, {2, 3, most + 1, api.ErrLimit}, {1, most + 1, most + 1, api.ErrLimit}, {api.MaxLeaves, 2 * most, 2 * most, api.ErrLimit},
		{1, most, 1, api.ErrTrailing}, {1, 1, most, api.ErrTrailing}, {1, most, most, api.ErrTrailing}, {1, most, 0, api.ErrShort}, {1, 0, most, api.ErrShort},
		{api.MaxLeaves, most, api.MaxLeaves, api.ErrTrailing}, {api.MaxLeaves, 2*api.MaxLeaves - 1, most, api.ErrTrailing},
	} {
		checkRefused(t, api.Partial{Count: c.count, Flags: slices.Repeat([]bool{true}, c.flags), Hashes: row(c.hashes)}, c.want)
	}
	// False flags everywhere, and false flags at the leaves: no matter what they are, they are counted first.
	checkRefused(t, api.Partial{Count: 2, Flags: make([]bool, most+1), Hashes: row(1)}, api.ErrLimit)
	checkRefused(t, api.Partial{Count: 2, Flags: append(flags("100"), make([]bool, most)...), Hashes: row(2)}, api.ErrLimit)
	checkRefused(t, api.Partial{Count: 2, Flags: append(flags("100"), make([]bool, most-3)...), Hashes: row(most)}, api.ErrCanonical)
}

// P7.5: all lists of flags that are not much longer than those of a part, with all numbers of digests. Only those of parts are taken.
func TestExtractOfAllFlags(t *testing.T) {
	for n := 1; n <= 5; n++ {
		l, longest := row(9), 0
		right := map[string]int{}
		for set := range uint64(1) << n {
			p := part(l[:n], subset(n, set))
			right[text(p.Flags)] = len(p.Hashes)
			longest = max(longest, len(p.Flags))
		}
		for size := range longest + 2 {
			for set := range uint64(1) << size {
				for digests := range n + 2 {
					p := api.Partial{Count: n, Flags: subset(size, set), Hashes: l[:digests]}
					checkExtract(t, p)
					_, _, e := merkle.Extract(p)
					if wants, ok := right[text(p.Flags)]; (ok && wants == digests) != (e == api.OK) {
						t.Errorf("Extract(%d, %s, %d digests) = %d", n, text(p.Flags), digests, e)
					}
				}
			}
		}
	}
}

// text returns a list of flags as zeros and ones.
func text(l []bool) string {
	var s []byte
	for _, flag := range l {
		if flag {
			s = append(s, '1')
		} else {
			s = append(s, '0')
		}
	}
	return string(s)
}

// checkExtract compares a result with that of the reference.
func checkExtract(t *testing.T, p api.Partial) {
	t.Helper()
	want, leaves, code := extract(p)
	if h, found, e := merkle.Extract(p); h != want || !slices.Equal(found, leaves) || e != code {
		t.Errorf("Extract(%d, %.40s, %d digests) = %x, %v, %d, want %x, %v, %d", p.Count, text(p.Flags), len(p.Hashes), h, found, e, want, leaves, code)
	}
}

// P7.5: parts of all trees with another flag, another Count, and lists that are cut or longer.
func TestExtractOfChangedParts(t *testing.T) {
	for _, n := range counts {
		l := row(n)
		for _, wanted := range choices(n) {
			p := part(l, wanted)
			for _, i := range []int{0, 1, 2, len(p.Flags) / 2, len(p.Flags) - 2, len(p.Flags) - 1} {
				if i < 0 || i >= len(p.Flags) {
					continue
				}
				q := api.Partial{Count: n, Flags: slices.Clone(p.Flags), Hashes: p.Hashes}
				q.Flags[i] = !q.Flags[i]
				checkExtract(t, q)
				checkExtract(t, api.Partial{Count: n, Flags: p.Flags[:i], Hashes: p.Hashes})
			}
			checkExtract(t, api.Partial{Count: n, Flags: append(p.Flags[:len(p.Flags):len(p.Flags)], true), Hashes: p.Hashes})
			checkExtract(t, api.Partial{Count: n, Flags: p.Flags, Hashes: p.Hashes[:len(p.Hashes)-1]})
			checkExtract(t, api.Partial{Count: n, Flags: p.Flags, Hashes: append(p.Hashes[:len(p.Hashes):len(p.Hashes)], zero)})
			for _, count := range []int{n - 1, n + 1, 2 * n} {
				if count >= 1 && count <= api.MaxLeaves {
					checkExtract(t, api.Partial{Count: count, Flags: p.Flags, Hashes: p.Hashes})
				}
			}
		}
	}
}

// Consequences: a part gives the root and the wanted leaves back.
func TestExtractPart(t *testing.T) {
	for _, n := range counts {
		l := row(n)
		want := root(l)
		for _, wanted := range choices(n) {
			p, _ := merkle.Part(l, wanted)
			if h, found, e := merkle.Extract(p); h != want || !slices.Equal(found, wantedLeaves(l, wanted)) || e != api.OK {
				t.Errorf("Extract of %d leaves, wanted %v = %x, %v, %d, want %x", n, wanted, h, found, e, want)
			}
		}
	}
}

// Rules: nothing is claimed about leaves that are the same; their trees are like all others.
func TestLeavesThatAreTheSame(t *testing.T) {
	for _, n := range counts {
		for _, l := range [][]api.Hash{make([]api.Hash, n), slices.Repeat([]api.Hash{leaf(1)}, n)} {
			want := root(l)
			if got := merkle.Root(l); got != want {
				t.Errorf("Root of the same leaf %d times = %x, want %x", n, got, want)
			}
			for _, i := range []int{0, n / 2, n - 1} {
				p, _ := merkle.Path(l, i)
				if h, e := merkle.Follow(p, l[i]); h != want || e != api.OK {
					t.Errorf("Follow(%d of %d) = %x, %d, want %x", i, n, h, e, want)
				}
				wanted := make([]bool, n)
				wanted[i] = true
				q, _ := merkle.Part(l, wanted)
				if h, found, e := merkle.Extract(q); h != want || !slices.Equal(found, []api.Leaf{{Index: i, Hash: l[i]}}) || e != api.OK {
					t.Errorf("Extract of leaf %d of %d = %x, %v, %d, want %x", i, n, h, found, e, want)
				}
			}
		}
	}
}

// Consequences: a part with another digest leads to another root, and parts that lead to one root agree about their leaves.
func TestPartsOfOneRoot(t *testing.T) {
	for _, n := range []int{1, 2, 3, 5, 8, 9, 33, api.MaxLeaves} {
		l := row(n)
		known := map[int]api.Hash{}
		for _, wanted := range choices(n) {
			p, _ := merkle.Part(l, wanted)
			before, found, _ := merkle.Extract(p)
			for _, f := range found {
				if h, ok := known[f.Index]; ok && h != f.Hash || f.Hash != l[f.Index] {
					t.Errorf("leaf %d of %d is %x and %x", f.Index, n, h, f.Hash)
				}
				known[f.Index] = f.Hash
			}
			for _, i := range []int{0, len(p.Hashes) / 2, len(p.Hashes) - 1} {
				q := api.Partial{Count: n, Flags: p.Flags, Hashes: slices.Clone(p.Hashes)}
				q.Hashes[i][17] ^= 4
				if h, _, e := merkle.Extract(q); h == before || e != api.OK {
					t.Errorf("a part of %d leaves with another digest %d leads to %x, %d", n, i, h, e)
				}
			}
		}
	}
}

// behind returns the list with others in the same memory behind it, and a copy of all of them.
func behind[T any](l []T, more ...T) (part, all, kept []T) {
	all = slices.Concat(l, more, more, more)
	return all[:len(l)], all, slices.Clone(all)
}

// Rule 1: nothing is written to an argument nor behind its end.
func TestArgumentsStay(t *testing.T) {
	for _, n := range append([]int{0, api.MaxLeaves + 1}, counts...) {
		l, all, kept := behind(row(n), leaf(7777), leaf(8888))
		for _, wanted := range choices(n) {
			w, allWanted, keptWanted := behind(wanted, true, false)
			merkle.Root(l)
			for _, i := range []int{-1, 0, n / 2, n - 1, n} {
				merkle.Path(l, i)
			}
			p, _ := merkle.Part(l, w)
			if !slices.Equal(all, kept) || !slices.Equal(allWanted, keptWanted) {
				t.Fatalf("%d leaves, what is wanted of them, or what lies behind, have changed", n)
			}
			f, allFlags, keptFlags := behind(p.Flags, true, false)
			h, allHashes, keptHashes := behind(p.Hashes, leaf(7777), leaf(8888))
			merkle.Extract(api.Partial{Count: p.Count, Flags: f, Hashes: h})
			merkle.Follow(api.Path{Count: n, Index: n / 2, Hashes: h}, leaf(1))
			if !slices.Equal(allFlags, keptFlags) || !slices.Equal(allHashes, keptHashes) {
				t.Fatalf("the part of %d leaves, wanted %v, or what lies behind it, has changed", n, wanted)
			}
		}
	}
}

// Rule 1: a path and a part are new memory, even where they hold leaves.
func TestResultsAreNew(t *testing.T) {
	for _, n := range []int{1, 2, 3, 8, 9, api.MaxLeaves} {
		l, wanted := row(n), slices.Repeat([]bool{true}, n)
		p, _ := merkle.Path(l, 0)
		q, _ := merkle.Part(l, wanted)
		_, found, _ := merkle.Extract(q)
		for i := range p.Hashes {
			p.Hashes[i] = zero
		}
		for i := range found {
			found[i] = api.Leaf{}
		}
		if !samePart(q, part(row(n), wanted)) {
			t.Errorf("the leaves that are found share memory with the part of %d", n)
		}
		for i := range q.Flags {
			q.Flags[i] = false
		}
		for i := range q.Hashes {
			q.Hashes[i] = zero
		}
		if !slices.Equal(l, row(n)) || slices.Contains(wanted, false) {
			t.Errorf("results share memory with %d leaves", n)
		}
		again, _ := merkle.Path(l, 0)
		if !samePath(again, path(l, 0)) {
			t.Errorf("paths in a tree over %d leaves share memory", n)
		}
	}
}

// FuzzTrees looks for arguments for which a result is not what the chapter says, or a function panics (P1).
func FuzzTrees(f *testing.F) {
	f.Add(0, 0, []byte{}, 0)
	f.Add(1, 0, []byte{1}, 1)
	f.Add(5, 4, []byte{0x1d}, 2)
	f.Add(9, -1, []byte{0x0b, 0xff}, 7)
	f.Add(api.MaxLeaves, api.MaxLeaves-1, bytes.Repeat([]byte{255}, 256), api.MaxLeaves)
	f.Add(api.MaxLeaves+1, math.MaxInt, bytes.Repeat([]byte{9}, 600), 4*api.MaxLeaves+1)
	f.Fuzz(func(t *testing.T, count, index int, b []byte, digests int) {
		var bits []bool
		for _, x := range b[:min(len(b), 600)] {
			bits = append(bits, subset(8, uint64(x))...)
		}
		hashes := row(max(0, digests%(4*api.MaxLeaves+2)))
		p := api.Partial{Count: count, Flags: bits, Hashes: hashes}
		switch {
		case count < 1 || count > api.MaxLeaves:
			checkRefused(t, p, api.ErrRange)
		case len(bits) > 4*api.MaxLeaves || len(hashes) > 4*api.MaxLeaves:
			checkRefused(t, p, api.ErrLimit)
		default:
			checkExtract(t, p)
		}
		h, e := merkle.Follow(api.Path{Count: count, Index: index, Hashes: hashes}, leaf(1))
		if inside := count >= 1 && count <= api.MaxLeaves && index >= 0 && index < count; inside == (e == api.ErrRange) || e != api.OK && h != zero {
			t.Errorf("Follow(%d of %d, %d digests) = %x, %d", index, count, len(hashes), h, e)
		}
		n := len(bits)
		l := row(n)
		got, e := merkle.Part(l, bits)
		if n < 1 || n > api.MaxLeaves {
			if !samePart(got, api.Partial{}) || e == api.OK || merkle.Root(l) != zero {
				t.Errorf("Part of %d leaves = %v, %d", n, got, e)
			}
			return
		}
		if !samePart(got, part(l, bits)) || e != api.OK {
			t.Errorf("Part of %d leaves, wanted %s = %v, %d", n, text(bits), got, e)
		}
		if h, found, e := merkle.Extract(got); h != merkle.Root(l) || !slices.Equal(found, wantedLeaves(l, bits)) || e != api.OK {
			t.Errorf("Extract of %d leaves, wanted %s = %x, %v, %d", n, text(bits), h, found, e)
		}
		way, e := merkle.Path(l, index)
		if index < 0 || index >= n {
			if !samePath(way, api.Path{}) || e != api.ErrRange {
				t.Errorf("Path of leaf %d of %d = %v, %d", index, n, way, e)
			}
			return
		}
		if h, e := merkle.Follow(way, l[index]); !samePath(way, path(l, index)) || h != merkle.Root(l) || e != api.OK {
			t.Errorf("leaf %d of %d has the path %v, which leads to %x, %d", index, n, way, h, e)
		}
	})
}

// BenchmarkPart measures the part of the greatest tree with a few wanted leaves.
func BenchmarkPart(b *testing.B) {
	l, wanted := row(api.MaxLeaves), make([]bool, api.MaxLeaves)
	wanted[3], wanted[500], wanted[501] = true, true, true
	for b.Loop() {
		merkle.Part(l, wanted)
	}
}
