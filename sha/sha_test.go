package sha_test

import (
	"bytes"
	"crypto/hmac"
	"crypto/sha256"
	"encoding/binary"
	"encoding/hex"
	"math"
	"math/big"
	"math/rand/v2"
	"strings"
	"testing"

	"lightclient/api"
	"lightclient/sha"
)

// ends are the lengths at which a padding or a block begins or ends, with their neighbours.
var ends = []int{0, 1, 54, 55, 56, 57, 63, 64, 65, 118, 119, 120, 121, 127, 128, 129, 183, 184, 191, 192, 193, 1000, 8191, 8192}

// counted returns n bytes, none of them like its neighbours.
func counted(n int) []byte {
	b := make([]byte, n)
	for i := range b {
		b[i] = byte(i + i>>8 + 1)
	}
	return b
}

// behind returns a copy of b with more memory behind its end, and all of this memory.
func behind(b []byte) (part, all []byte) {
	all = append(append([]byte{}, b...), bytes.Repeat([]byte{77}, 128)...)
	return all[:len(b)], all
}

// text returns the digits of h.
func text(h api.Hash) string { return hex.EncodeToString(h[:]) }

// root returns the integer part of the root of n, of that degree.
func root(n *big.Int, degree int64) *big.Int {
	low, high := big.NewInt(0), new(big.Int).Add(n, big.NewInt(1))
	for {
		middle := new(big.Int).Add(low, high)
		middle.Rsh(middle, 1)
		if middle.Cmp(low) == 0 {
			return low
		}
		if new(big.Int).Exp(middle, big.NewInt(degree), nil).Cmp(n) <= 0 {
			low = middle
		} else {
			high = middle
		}
	}
}

// fractions returns the first 32 bits of the fractional parts of the roots of the first count primes: what the chapter says that its constants are.
func fractions(count int, degree int64) []uint32 {
	var l []uint32
	for n := int64(2); len(l) < count; n++ {
		if p := big.NewInt(n); p.ProbablyPrime(20) {
			l = append(l, uint32(root(p.Lsh(p, uint(32*degree)), degree).Uint64()))
		}
	}
	return l
}

// start returns the initial state.
func start() [8]uint32 { return [8]uint32(fractions(8, 2)) }

// turned returns x rotated to the right, bit by bit.
func turned(x uint32, n int) uint32 {
	for range n {
		x = x>>1 | x<<31
	}
	return x
}

// reference does what P3.1 says, with the constants k.
func reference(k []uint32, state [8]uint32, block [64]byte) [8]uint32 {
	var w []uint32
	for i := range 16 {
		w = append(w, binary.BigEndian.Uint32(block[4*i:]))
	}
	for i := 16; i < 64; i++ {
		s0 := turned(w[i-15], 7) ^ turned(w[i-15], 18) ^ w[i-15]>>3
		s1 := turned(w[i-2], 17) ^ turned(w[i-2], 19) ^ w[i-2]>>10
		w = append(w, w[i-16]+s0+w[i-7]+s1)
	}
	v := state
	for i := range 64 {
		a, b, c, e, f, g := v[0], v[1], v[2], v[4], v[5], v[6]
		t1 := v[7] + (turned(e, 6) ^ turned(e, 11) ^ turned(e, 25)) + ((e & f) ^ (^e & g)) + k[i] + w[i]
		t2 := (turned(a, 2) ^ turned(a, 13) ^ turned(a, 22)) + ((a & b) ^ (a & c) ^ (b & c))
		v = [8]uint32{t1 + t2, a, b, c, v[3] + t1, e, f, g}
	}
	for i := range v {
		v[i] += state[i]
	}
	return v
}

// P3.1: literal values, from another implementation.
func TestCompressOfEdges(t *testing.T) {
	var ones, up [8]uint32
	for i := range ones {
		ones[i], up[i] = math.MaxUint32, 0x01020304*uint32(i+1)
	}
	full, rising := [64]byte(bytes.Repeat([]byte{255}, 64)), [64]byte(counted(64))
	for name, c := range map[string]struct {
		state [8]uint32
		block [64]byte
		want  [8]uint32
	}{
		"nothing":                {want: [8]uint32{0x7ca51614, 0x425c3ba8, 0xce54dd2f, 0xc2020ae7, 0xb6e574d1, 0x98136d0f, 0xae7e26cc, 0xbf0be7a6}},
		"a full block":           {[8]uint32{}, full, [8]uint32{0x5081b30e, 0xfa9924a2, 0x8412d8aa, 0x28bb0c93, 0xda147a5a, 0xd8e1f92b, 0x5af1210d, 0x57081603}},
		"a rising block":         {[8]uint32{}, rising, [8]uint32{0x7943444b, 0x31774d97, 0x7e1664a3, 0x41d1b53d, 0x7e760446, 0xac24a9cf, 0x2b9c906b, 0xf5ad998c}},
		"a full state":           {ones, [64]byte{}, [8]uint32{0x25260809, 0x56c94ba8, 0xe7d6dd48, 0x222df1d3, 0xf914c4b0, 0xb823beb6, 0xe8cebb7a, 0xddcdff59}},
		"both full":              {ones, full, [8]uint32{0x0598127a, 0xaf11706e, 0x77401fff, 0xd730c549, 0x0b84c867, 0xa98c6ca3, 0xd7f3c0f9, 0x06a78b79}},
		"full and rising":        {ones, rising, [8]uint32{0x8bfe1429, 0x01069d3e, 0x68339ffe, 0xc1d2d0a8, 0x10472c66, 0xe29d57d1, 0x996221aa, 0x56475451}},
		"a rising state":         {up, [64]byte{}, [8]uint32{0x23aa8164, 0x4b3afd53, 0xba782545, 0xab69f970, 0xf13f6887, 0xb6785ed2, 0x3186b165, 0x20eb897c}},
		"rising and full":        {up, full, [8]uint32{0xa6f84bf1, 0x160f038c, 0x2ab0f35e, 0x3d4a4848, 0x07c3c939, 0x25438044, 0x219e8ae4, 0xf22bab18}},
		"both rising":            {up, rising, [8]uint32{0xaf4b787b, 0x6f9931e1, 0x51b37939, 0xecd4d4ff, 0x1b65cbb8, 0x6d39cb53, 0xe64e80a1, 0x8cdb7f1d}},
		"abc, padded":            {start(), [64]byte{'a', 'b', 'c', 128, 63: 24}, [8]uint32{0xba7816bf, 0x8f01cfea, 0x414140de, 0x5dae2223, 0xb00361a3, 0x96177a9c, 0xb410ff61, 0xf20015ad}},
		"the padding of no byte": {start(), [64]byte{128}, [8]uint32{0xe3b0c442, 0x98fc1c14, 0x9afbf4c8, 0x996fb924, 0x27ae41e4, 0x649b934c, 0xa495991b, 0x7852b855}},
	} {
		if got := sha.Compress(c.state, c.block); got != c.want {
			t.Errorf("%s: Compress(%08x, %x) = %08x, want %08x", name, c.state, c.block, got, c.want)
		}
	}
}

// P3.1: every bit of the state and of the block has the effect that the chapter says, with constants computed from the primes.
func TestCompressOfAllBits(t *testing.T) {
	k, first := fractions(64, 3), start()
	check := func(state [8]uint32, block [64]byte) {
		t.Helper()
		if got, want := sha.Compress(state, block), reference(k, state, block); got != want {
			t.Errorf("Compress(%08x, %x) = %08x, want %08x", state, block, got, want)
		}
	}
	for i := range 256 {
		for _, state := range [][8]uint32{{}, first} {
			state[i/32] ^= 1 << (i % 32)
			check(state, [64]byte{})
		}
	}
	for i := range 512 {
		var block [64]byte
		block[i/8] = 1 << (i % 8)
		check(first, block)
		check([8]uint32{}, block)
	}
	r := rand.New(rand.NewPCG(3, 1))
	for range 500 {
		var state [8]uint32
		var block [64]byte
		for i := range state {
			state[i] = r.Uint32()
		}
		for i := range block {
			block[i] = byte(r.Uint32())
		}
		check(state, block)
	}
}

// P3.2: literal values.
func TestPadOfEdges(t *testing.T) {
	for _, c := range []struct {
		n     uint64
		zeros int
		bits  []byte // the last 8 bytes
	}{
		{0, 55, []byte{0, 0, 0, 0, 0, 0, 0, 0}},
		{1, 54, []byte{0, 0, 0, 0, 0, 0, 0, 8}},
		{31, 24, []byte{0, 0, 0, 0, 0, 0, 0, 248}},
		{32, 23, []byte{0, 0, 0, 0, 0, 0, 1, 0}},
		{54, 1, []byte{0, 0, 0, 0, 0, 0, 1, 176}},
		{55, 0, []byte{0, 0, 0, 0, 0, 0, 1, 184}},
		{56, 63, []byte{0, 0, 0, 0, 0, 0, 1, 192}},
		{63, 56, []byte{0, 0, 0, 0, 0, 0, 1, 248}},
		{64, 55, []byte{0, 0, 0, 0, 0, 0, 2, 0}},
		{65, 54, []byte{0, 0, 0, 0, 0, 0, 2, 8}},
		{119, 0, []byte{0, 0, 0, 0, 0, 0, 3, 184}},
		{120, 63, []byte{0, 0, 0, 0, 0, 0, 3, 192}},
		{128, 55, []byte{0, 0, 0, 0, 0, 0, 4, 0}},
		{1 << 29, 55, []byte{0, 0, 0, 1, 0, 0, 0, 0}},
		{0x0023456789abcdef, 8, []byte{1, 0x1a, 0x2b, 0x3c, 0x4d, 0x5e, 0x6f, 0x78}},
		{1<<61 - 1, 56, []byte{255, 255, 255, 255, 255, 255, 255, 248}},
		{1 << 61, 55, []byte{0, 0, 0, 0, 0, 0, 0, 0}},
		{1<<61 + 55, 0, []byte{0, 0, 0, 0, 0, 0, 1, 184}},
		{1<<61 + 56, 63, []byte{0, 0, 0, 0, 0, 0, 1, 192}},
		{1 << 63, 55, []byte{0, 0, 0, 0, 0, 0, 0, 0}},
		{1<<63 + 1<<60 + 3, 52, []byte{128, 0, 0, 0, 0, 0, 0, 24}},
		{math.MaxUint64 - 8, 0, []byte{255, 255, 255, 255, 255, 255, 255, 184}},
		{math.MaxUint64 - 7, 63, []byte{255, 255, 255, 255, 255, 255, 255, 192}},
		{math.MaxUint64, 56, []byte{255, 255, 255, 255, 255, 255, 255, 248}},
	} {
		want := append(append([]byte{128}, make([]byte, c.zeros)...), c.bits...)
		if got := sha.Pad(c.n); !bytes.Equal(got, want) {
			t.Errorf("Pad(%d) = %v, want %v", c.n, got, want)
		}
	}
}

// P3.2: the shortest padding that fills a block, for lengths of all sizes, reckoned with numbers that do not overflow.
func TestPadOfAllLengths(t *testing.T) {
	var lengths []uint64
	for i := range uint64(260) {
		lengths = append(lengths, i, 1<<32-130+i, 1<<61-130+i, 1<<63-130+i, math.MaxUint64-i)
	}
	for i := range 64 {
		lengths = append(lengths, 1<<i, 1<<i-1)
	}
	for _, n := range lengths {
		want := []byte{128}
		whole := func() bool {
			all := new(big.Int).Add(new(big.Int).SetUint64(n), big.NewInt(int64(len(want)+8)))
			return all.Mod(all, big.NewInt(64)).Sign() == 0
		}
		for !whole() {
			want = append(want, 0)
		}
		bits := new(big.Int).Lsh(new(big.Int).SetUint64(n), 3)
		bits.Mod(bits, new(big.Int).Lsh(big.NewInt(1), 64))
		want = append(want, bits.FillBytes(make([]byte, 8))...)
		if got := sha.Pad(n); !bytes.Equal(got, want) {
			t.Errorf("Pad(%d) = %v, want %v", n, got, want)
		}
	}
}

// P3.3: literal values, those of the examples and at the ends of blocks.
func TestSumOfEdges(t *testing.T) {
	for _, c := range []struct {
		message, want string
	}{
		{"", "e3b0c44298fc1c149afbf4c8996fb92427ae41e4649b934ca495991b7852b855"},
		{"abc", "ba7816bf8f01cfea414140de5dae2223b00361a396177a9cb410ff61f20015ad"},
		{"abcdbcdecdefdefgefghfghighijhijkijkljklmklmnlmnomnopnopq", "248d6a61d20638b8e5c026930c3e6039a33ce45964ff2167f6ecedd419db06c1"},
		{strings.Repeat("a", 55), "9f4390f8d30c2dd92ec9f095b65e2b9ae9b0a925a5258e241c9f1e910f734318"},
		{strings.Repeat("a", 56), "b35439a4ac6f0948b6d6f9e3c6af0f5f590ce20f1bde7090ef7970686ec6738a"},
		{strings.Repeat("a", 63), "7d3e74a05d7db15bce4ad9ec0658ea98e3f06eeecf16b4c6fff2da457ddc2f34"},
		{strings.Repeat("a", 64), "ffe054fe7ae0cb6dc65c3af9b61d5209f439851db43d0ba5997337df154668eb"},
		{strings.Repeat("a", 65), "635361c48bb9eab14198e76ea8ab7f1a41685d6ad62aa9146d301d4f17eb0ae0"},
		{strings.Repeat("a", 119), "31eba51c313a5c08226adf18d4a359cfdfd8d2e816b13f4af952f7ea6584dcfb"},
		{strings.Repeat("a", 120), "2f3d335432c70b580af0e8e1b3674a7c020d683aa5f73aaaedfdc55af904c21c"},
		{strings.Repeat("a", 128), "6836cf13bac400e9105071cd6af47084dfacad4e5e302c94bfed24e013afb73e"},
		{strings.Repeat("a", 1000), "41edece42d63e8d9bf515a9ba6932e1c20cbc9f5a5d134645adb5db1b9737ea3"},
		{strings.Repeat("a", 1000000), "cdc76e5c9914fb9281a1c7e284d73e67f1809a48a497200e046d39ccc7112cd0"},
	} {
		if got := text(sha.Sum([]byte(c.message))); got != c.want {
			t.Errorf("Sum of %d bytes %.9q = %s, want %s", len(c.message), c.message, got, c.want)
		}
	}
	if sha.Sum(nil) != sha.Sum([]byte{}) {
		t.Error("Sum of nil is not that of an empty list")
	}
}

// P3.3: messages of all lengths up to several blocks, and of some that are longer.
func TestSumOfAllLengths(t *testing.T) {
	lengths := []int{1 << 12, 1<<13 - 1, 1 << 13, 1<<16 - 9, 1 << 16, api.MaxBytes, 1<<21 + 1}
	for n := range 520 {
		lengths = append(lengths, n)
	}
	for _, n := range lengths {
		for _, b := range [][]byte{counted(n), make([]byte, n), bytes.Repeat([]byte{255}, n)} {
			if got, want := sha.Sum(b), api.Hash(sha256.Sum256(b)); got != want {
				t.Errorf("Sum of %d bytes = %x, want %x", n, got, want)
			}
		}
	}
}

// P3.4: the digest of the digest.
func TestDouble(t *testing.T) {
	for message, want := range map[string]string{
		"":      "5df6e0e2761359d30a8275058e299fcc0381534545f55cf43e41983f5d4c9456",
		"abc":   "4f8b42c22dd3729b519ba6f68d2da7cc5b2d606d05daed5ad5128cc03e6c6358",
		"hello": "9595c9df90075148eb06860365df33584b75bff782a510c6cd4883a419833d50",
	} {
		if got := text(sha.Double([]byte(message))); got != want {
			t.Errorf("Double of %q = %s, want %s", message, got, want)
		}
	}
	for _, n := range ends {
		once := sha256.Sum256(counted(n))
		if got, want := sha.Double(counted(n)), api.Hash(sha256.Sum256(once[:])); got != want {
			t.Errorf("Double of %d bytes = %x, want %x", n, got, want)
		}
	}
}

// P3.4: tags that are empty, long, and not text.
func TestTagged(t *testing.T) {
	for _, c := range []struct {
		tag, message, want string
	}{
		{"", "", "2dba5dbc339e7316aea2683faf839c1b7b1ee2313db792112588118df066aa35"},
		{"", "abc", "d7f526e0a2ee5577fc14454a6ccf01d91cd3d2b38915bd17706725e1ce6a0816"},
		{"tag", "abc", "461d9c677fe8414b5197d006f81f323b1f08415fbead227f1bcb7665c7dbabe7"},
		{"BIP0340/challenge", "", "c216d352f5818b7b4beacd4ae0a26fe888080823d2a598856661bcd54f1b3713"},
		{strings.Repeat("t", 100), "abc", "1d8ea5e0946c404cb0940985ed73351726a903e86c9daed4340c55efd1b60745"},
		{"\xff\x00\xfe", "abc", "e79ca949d5225d5207f5c395f4c667a06746ef36effbeb68ae26f10b4273fab8"},
	} {
		if got := text(sha.Tagged(c.tag, []byte(c.message))); got != c.want {
			t.Errorf("Tagged(%q, %q) = %s, want %s", c.tag, c.message, got, c.want)
		}
	}
	for _, size := range ends {
		tag := string(counted(size))
		first := sha256.Sum256([]byte(tag))
		for _, n := range ends {
			row := append(append(append([]byte{}, first[:]...), first[:]...), counted(n)...)
			if got, want := sha.Tagged(tag, counted(n)), api.Hash(sha256.Sum256(row)); got != want {
				t.Errorf("Tagged with a tag of %d bytes of %d bytes = %x, want %x", size, n, got, want)
			}
		}
	}
}

// P3.5: literal values; those of numbered cases are from RFC 4231.
func TestHmacOfEdges(t *testing.T) {
	k, zeros := strings.Repeat("k", 70), strings.Repeat("\x00", 70)
	aa := strings.Repeat("\xaa", 131)
	for name, c := range map[string]struct {
		key, message, want string
	}{
		"case 1":                       {strings.Repeat("\x0b", 20), "Hi There", "b0344c61d8db38535ca8afceaf0bf12b881dc200c9833da726e9376c2e32cff7"},
		"case 2":                       {"Jefe", "what do ya want for nothing?", "5bdcc146bf60754e6a042426089575c75a003f089d2739839dec58b964ec3843"},
		"case 3":                       {aa[:20], strings.Repeat("\xdd", 50), "773ea91e36800e46854db8ebd09181a72959098b3ef8c122d9635514ced565fe"},
		"case 6":                       {aa, "Test Using Larger Than Block-Size Key - Hash Key First", "60e431591ee0b67f0d8a26aacbf5b77f8e0bc6213728c5140546040f0ee37f54"},
		"no key, nothing":              {"", "", "b613679a0814d9ec772f95d778c35fc5ff1697c493715653c6c712144292c5ad"},
		"no key":                       {"", "abc", "fd7adb152c05ef80dccf50a1fa4c05d5a3ec6da95575fc312ae7c5d091836351"},
		"63 bytes":                     {k[:63], "abc", "23670528b6b8c55d2f8ef2f36c1f000cec7c23ec76881c485f2e89b5fe705cca"},
		"63 bytes, nothing":            {k[:63], "", "a73e4ae46b2a9f2402fff056e156c0a25551e3db5097f9367522239bfbc2d02e"},
		"64 bytes":                     {k[:64], "abc", "ae0c0e4a2340cf50185eb46aaa8723f4769153661612e212fb0d1fa3170c6202"},
		"64 bytes, nothing":            {k[:64], "", "83026a325aaee70e36cfe607536aa1054104ad1077c36134810d4ccded1ccd3b"},
		"65 bytes":                     {k[:65], "abc", "ed378e5dfa30dc98814ba09b2e610d9b6af66054922ceef9480da094a3f11b2d"},
		"65 bytes, nothing":            {k[:65], "", "41f1c4cc3107cd5b8d92460f61032902bfdb06484eef17e861b83a5012d3b7f3"},
		"one byte":                     {"k", "abc", "342e519ce0ad6c03a36b98eeb3f1d130db4813b9df4d1160eda488d712dc78ee"},
		"one byte and zeros":           {"k\x00\x00", "abc", "342e519ce0ad6c03a36b98eeb3f1d130db4813b9df4d1160eda488d712dc78ee"},
		"64 zeros, like no key":        {zeros[:64], "abc", "fd7adb152c05ef80dccf50a1fa4c05d5a3ec6da95575fc312ae7c5d091836351"},
		"65 zeros, a digest like none": {zeros[:65], "abc", "bd10d9b4fef20ede625ff7402f67a93c93fbab7711b715414fce186f5c7f4687"},
	} {
		if got := text(sha.Hmac([]byte(c.key), []byte(c.message))); got != c.want {
			t.Errorf("%s: Hmac = %s, want %s", name, got, c.want)
		}
	}
	if sha.Hmac(nil, nil) != sha.Hmac([]byte{}, []byte{}) {
		t.Error("Hmac of nil is not that of empty lists")
	}
}

// P3.5: keys of all lengths around a block, and messages at the ends of blocks.
func TestHmacOfAllLengths(t *testing.T) {
	for size := range 140 {
		for _, n := range ends {
			h := hmac.New(sha256.New, counted(size))
			h.Write(counted(n))
			if got, want := sha.Hmac(counted(size), counted(n)), api.Hash(h.Sum(nil)); got != want {
				t.Errorf("Hmac with a key of %d bytes of %d bytes = %x, want %x", size, n, got, want)
			}
		}
	}
}

// P3.5: zero bytes at the end of a key make no difference up to 64 bytes, and one behind them.
func TestHmacOfZerosBehindAKey(t *testing.T) {
	message := []byte("abc")
	for _, size := range []int{0, 1, 31, 32, 62, 63, 64} {
		key := counted(size)
		want := sha.Hmac(key, message)
		for zeros := range 65 - size {
			if got := sha.Hmac(append(counted(size), make([]byte, zeros)...), message); got != want {
				t.Errorf("Hmac with a key of %d bytes and %d zeros = %x, want %x", size, zeros, got, want)
			}
		}
		if got := sha.Hmac(append(counted(size), make([]byte, 65-size)...), message); got == want {
			t.Errorf("Hmac with a key of %d bytes is that with zeros up to 65 bytes", size)
		}
	}
}

// Consequences: a digest is computed block by block, in parts of any number of blocks.
func TestSumBlockByBlock(t *testing.T) {
	for _, n := range ends {
		padded := append(counted(n), sha.Pad(uint64(n))...)
		if len(padded)%64 != 0 {
			t.Fatalf("%d bytes and their padding are %d bytes", n, len(padded))
		}
		state := start()
		for at := 0; at < len(padded); at += 64 {
			state = sha.Compress(state, [64]byte(padded[at:]))
		}
		var got api.Hash
		for i, x := range state {
			binary.BigEndian.PutUint32(got[4*i:], x)
		}
		if want := sha.Sum(counted(n)); got != want {
			t.Errorf("block by block, the digest of %d bytes is %x, want %x", n, got, want)
		}
	}
}

// Consequences: a key of more than 64 bytes is the same as its digest; one of at most 64 is not.
func TestHmacOfADigestedKey(t *testing.T) {
	message := []byte("abc")
	for _, size := range []int{0, 1, 32, 63, 64, 65, 66, 128, 1000} {
		h := sha.Sum(counted(size))
		same := sha.Hmac(counted(size), message) == sha.Hmac(h[:], message)
		if same != (size > 64) {
			t.Errorf("a key of %d bytes is the same as its digest: %v", size, same)
		}
	}
}

// Rule 1: nothing is written to an argument nor behind its end, and a result is new memory.
func TestMemoryStaysApart(t *testing.T) {
	for _, n := range ends {
		b, all := behind(counted(n))
		key, keyAll := behind(counted(n))
		kept := append([]byte{}, all...)
		sha.Sum(b)
		sha.Double(b)
		sha.Tagged("tag", b)
		sha.Hmac(key, b)
		if !bytes.Equal(all, kept) || !bytes.Equal(keyAll, kept) {
			t.Errorf("the arguments of %d bytes, or what lies behind them, have changed", n)
		}
		want := sha.Hmac(append([]byte{}, b...), append([]byte{}, b...))
		if got := sha.Hmac(b, b); got != want {
			t.Errorf("Hmac of one list of %d bytes twice = %x, want %x", n, got, want)
		}
		p := sha.Pad(uint64(n))
		keptPad := append([]byte{}, p...)
		again := sha.Pad(uint64(n))
		for i := range again {
			again[i] ^= 255
		}
		if !bytes.Equal(p, keptPad) || !bytes.Equal(sha.Pad(uint64(n)), keptPad) {
			t.Errorf("results of Pad(%d) share memory", n)
		}
	}
}

// FuzzDigests looks for arguments for which a digest is not that of another implementation, or a function panics (P1).
func FuzzDigests(f *testing.F) {
	f.Add([]byte{}, []byte{}, uint64(0))
	f.Add(counted(55), counted(64), uint64(55))
	f.Add(counted(56), counted(65), uint64(math.MaxUint64))
	f.Add(counted(200), make([]byte, 63), uint64(1<<61))
	k := fractions(64, 3)
	f.Fuzz(func(t *testing.T, b, key []byte, n uint64) {
		once := sha256.Sum256(b)
		if got := sha.Sum(b); got != api.Hash(once) {
			t.Errorf("Sum(%x) = %x", b, got)
		}
		if got := sha.Double(b); got != api.Hash(sha256.Sum256(once[:])) {
			t.Errorf("Double(%x) = %x", b, got)
		}
		first := sha256.Sum256(key)
		if got := sha.Tagged(string(key), b); got != api.Hash(sha256.Sum256(bytes.Join([][]byte{first[:], first[:], b}, nil))) {
			t.Errorf("Tagged(%x, %x) = %x", key, b, got)
		}
		h := hmac.New(sha256.New, key)
		h.Write(b)
		if got := sha.Hmac(key, b); got != api.Hash(h.Sum(nil)) {
			t.Errorf("Hmac(%x, %x) = %x", key, b, got)
		}
		if p := sha.Pad(n); len(p) < 9 || len(p) > 72 || (n%64+uint64(len(p)))%64 != 0 || p[0] != 128 || binary.BigEndian.Uint64(p[len(p)-8:]) != 8*n {
			t.Errorf("Pad(%d) = %x", n, p)
		}
		var state [8]uint32
		var block [64]byte
		for i := range state {
			state[i] = binary.BigEndian.Uint32(append(key, make([]byte, 32)...)[4*i:])
		}
		copy(block[:], b)
		if got, want := sha.Compress(state, block), reference(k, state, block); got != want {
			t.Errorf("Compress(%x, %x) = %x, want %x", state, block, got, want)
		}
	})
}

// BenchmarkSum measures the digest of a long message.
func BenchmarkSum(b *testing.B) {
	m := counted(1 << 16)
	b.SetBytes(int64(len(m)))
	for b.Loop() {
		sha.Sum(m)
	}
}
