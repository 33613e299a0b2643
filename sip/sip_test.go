package sip_test

import (
	"bytes"
	"encoding/binary"
	"math"
	"math/big"
	"math/bits"
	"math/rand/v2"
	"testing"

	"lightclient/api"
	"lightclient/sip"
)

// ends are the lengths that the chapter's groups of 8 bytes and its length modulo 256 make special, with their neighbours.
var ends = []int{0, 1, 6, 7, 8, 9, 15, 16, 17, 23, 24, 25, 247, 248, 249, 254, 255, 256, 257, 263, 264, 511, 512, 513}

// edges are the words at which a product or a sum overflows, with their neighbours.
var edges = []uint64{0, 1, 2, 3, 10, 1<<32 - 1, 1 << 32, 1<<32 + 1, 1<<63 - 1, 1 << 63, 1<<63 + 1, math.MaxUint64 - 1, math.MaxUint64}

var (
	rising = api.SipKey{0x0706050403020100, 0x0f0e0d0c0b0a0908}
	ones   = api.SipKey{math.MaxUint64, math.MaxUint64}
)

// counted returns n bytes, none of them like its neighbours.
func counted(n int) []byte {
	b := make([]byte, n)
	for i := range b {
		b[i] = byte(7*i + 1)
	}
	return b
}

// zeroEnded returns the same bytes with a zero at the end.
func zeroEnded(n int) []byte {
	b := counted(n)
	if n > 0 {
		b[n-1] = 0
	}
	return b
}

// upTo returns the bytes from 0 to n - 1.
func upTo(n int) []byte {
	b := make([]byte, n)
	for i := range b {
		b[i] = byte(i)
	}
	return b
}

// reference does what P4.1 says, on a message that is filled up to whole words beforehand.
func reference(k api.SipKey, b []byte) uint64 {
	all := append([]byte{}, b...)
	for len(all)%8 != 7 {
		all = append(all, 0)
	}
	all = append(all, byte(len(b)%256))
	v := [4]uint64{k[0] ^ 0x736f6d6570736575, k[1] ^ 0x646f72616e646f6d, k[0] ^ 0x6c7967656e657261, k[1] ^ 0x7465646279746573}
	turned := func(x uint64, n int) uint64 { return x<<n | x>>(64-n) }
	round := func() {
		v[0], v[2] = v[0]+v[1], v[2]+v[3]
		v[1], v[3] = turned(v[1], 13)^v[0], turned(v[3], 16)^v[2]
		v[0] = turned(v[0], 32)
		v[0], v[2] = v[0]+v[3], v[2]+v[1]
		v[3], v[1] = turned(v[3], 21)^v[0], turned(v[1], 17)^v[2]
		v[2] = turned(v[2], 32)
	}
	for ; len(all) > 0; all = all[8:] {
		m := binary.LittleEndian.Uint64(all)
		v[3] ^= m
		round()
		round()
		v[0] ^= m
	}
	v[2] ^= 255
	for range 4 {
		round()
	}
	return v[0] ^ v[1] ^ v[2] ^ v[3]
}

// P4.1: the values that the authors of SipHash published, for messages of the bytes from 0 on; that of 15 bytes is the example.
func TestSumOfRisingBytes(t *testing.T) {
	for n, want := range []uint64{
		0x726fdb47dd0e0e31, 0x74f839c593dc67fd, 0x0d6c8009d9a94f5a, 0x85676696d7fb7e2d,
		0xcf2794e0277187b7, 0x18765564cd99a68d, 0xcbc9466e58fee3ce, 0xab0200f58b01d137,
		0x93f5f5799a932462, 0x9e0082df0ba9e4b0, 0x7a5dbbc594ddb9f3, 0xf4b32f46226bada7,
		0x751e8fbc860ee5fb, 0x14ea5627c0843d90, 0xf723ca908e7af2ee, 0xa129ca6149be45e5,
		0x3f2acc7f57c29bdb, 0x699ae9f52cbe4794, 0x4bc1b3f0968dd39c, 0xbb6dc91da77961bd,
		0xbed65cf21aa2ee98, 0xd0f2cbb02e3b67c7, 0x93536795e3a33e88, 0xa80c038ccd5ccec8,
		0xb8ad50c6f649af94, 0xbce192de8a85b8ea, 0x17d835b85bbb15f3, 0x2f2e6163076bcfad,
		0xde4daaaca71dc9a5, 0xa6a2506687956571, 0xad87a3535c49ef28, 0x32d892fad841c342,
		0x7127512f72f27cce, 0xa7f32346f95978e3, 0x12e0b01abb051238, 0x15e034d40fa197ae,
		0x314dffbe0815a3b4, 0x027990f029623981, 0xcadcd4e59ef40c4d, 0x9abfd8766a33735c,
		0x0e3ea96b5304a7d0, 0xad0c42d6fc585992, 0x187306c89bc215a9, 0xd4a60abcf3792b95,
		0xf935451de4f21df2, 0xa9538f0419755787, 0xdb9acddff56ca510, 0xd06c98cd5c0975eb,
		0xe612a3cb9ecba951, 0xc766e62cfcadaf96, 0xee64435a9752fe72, 0xa192d576b245165a,
		0x0a8787bf8ecb74b2, 0x81b3e73d20b49b6f, 0x7fa8220ba3b2ecea, 0x245731c13ca42499,
		0xb78dbfaf3a8d83bd, 0xea1ad565322a1a0b, 0x60e61c23a3795013, 0x6606d7e446282b93,
		0x6ca4ecb15c5f91e1, 0x9f626da15c9625f3, 0xe51b38608ef25f57, 0x958a324ceb064572,
	} {
		if got := sip.Sum(rising, upTo(n)); got != want {
			t.Errorf("Sum of %d rising bytes = 0x%016x, want 0x%016x", n, got, want)
		}
	}
}

// P4.1: literal values, from another implementation: bytes without a zero at the end, with one, and zeros alone.
func TestSumOfEdges(t *testing.T) {
	for _, c := range []struct {
		k                     api.SipKey
		n                     int
		plain, ended, allZero uint64
	}{
		{rising, 0, 0x726fdb47dd0e0e31, 0x726fdb47dd0e0e31, 0x726fdb47dd0e0e31},
		{rising, 7, 0x08350396c83a8733, 0x9355518a70432356, 0xaab82dae3354313a},
		{rising, 8, 0xb27c679ced6314a9, 0x9ed4185d4efb7379, 0x39d3851ca07681a7},
		{rising, 9, 0x4d2495e22a7697bf, 0xc2af972e442fa120, 0x4876b84f02298863},
		{rising, 15, 0x5d6c3642ee07ab6d, 0x99ecd1c9997dfb4d, 0x33ea71257ea30cbc},
		{rising, 16, 0xae4dcc963f5c6770, 0x665578c4739aea57, 0x98a0d3c0ef557701},
		{rising, 255, 0x98a923a42cee03a1, 0x103bd3555cd6d752, 0x91c97abab4cdbf56},
		{rising, 256, 0xaa73367455fea5c7, 0x8fea1605b9c216a7, 0x7408248d2694d61c},
		{rising, 257, 0x9b775d44f9ceef72, 0x5790abafbae29894, 0x95b2db4c59428646},
		{api.SipKey{}, 0, 0x1e924b9d737700d7, 0x1e924b9d737700d7, 0x1e924b9d737700d7},
		{api.SipKey{}, 7, 0xb964c1db159f2213, 0x6831b0908ace3203, 0x85f896b6040a13ec},
		{api.SipKey{}, 8, 0x1f5f488b1630ff5c, 0x9565a3b26ec7beca, 0xe849e8bb6ffe2567},
		{api.SipKey{}, 9, 0x56f824959921323f, 0xb267528fd10139a9, 0x2d508cd20c8f0cef},
		{api.SipKey{}, 15, 0xd8324f460d7e8b46, 0x17eff63379f90a71, 0x97f21481e1333322},
		{api.SipKey{}, 16, 0x16e37bb52883d885, 0xded9114077ac106c, 0x32caecc280172976},
		{api.SipKey{}, 255, 0xf86c0a8448572990, 0xd956fd7cca564d02, 0x8b21238d5527793f},
		{api.SipKey{}, 256, 0x386aece4660fafff, 0x357d60d95c71f04d, 0x80d978d6fa417c1e},
		{api.SipKey{}, 257, 0x7084511bd0345c2c, 0x0e7f1fa90211c6cb, 0x2d0244227390b43d},
		{ones, 0, 0x35dd279ee86ce565, 0x35dd279ee86ce565, 0x35dd279ee86ce565},
		{ones, 7, 0xa19c13d777a6757d, 0x64a2587ccfd35a8b, 0x3f5cf6f23fa6bfff},
		{ones, 8, 0x022d9bd514d6a461, 0x91f6f9ea78677a20, 0x93e9a1f113e70a00},
		{ones, 9, 0x7107f13b4b915c62, 0xd82425494b89217b, 0xc4d763fab367facd},
		{ones, 15, 0x53fab653e453fe34, 0x8614914c1e791ef7, 0x48222c854e5773c1},
		{ones, 16, 0x3960ec04fcbac894, 0x2713a6e26395a775, 0x35c8e6726a5f15cf},
		{ones, 255, 0x09dfb00498781c0d, 0x97cabe907ee2b2c5, 0x6b30a7d3c1f5b672},
		{ones, 256, 0xbbb5d7dedacf2318, 0xaefbfebab6950a70, 0x90dad0fb812baea8},
		{ones, 257, 0x44a5ba953ff7d1a5, 0x0fe3f035783c0655, 0xc70fea7105b10b4f},
		{rising, 8192, 0x9e48e83745f06d56, 0, 0},
		{rising, 65536, 0x6c3d0b97b8690ff3, 0, 0},
		{rising, 65791, 0xb603e62018f96586, 0, 0},
		{rising, api.MaxBytes, 0x38f6531795a0601e, 0, 0},
	} {
		check := func(kind string, b []byte, want uint64) {
			t.Helper()
			if got := sip.Sum(c.k, b); got != want {
				t.Errorf("Sum under %x of %d %s bytes = 0x%016x, want 0x%016x", c.k, c.n, kind, got, want)
			}
		}
		check("counted", counted(c.n), c.plain)
		if c.ended != 0 {
			check("zero-ended", zeroEnded(c.n), c.ended)
			check("zero", make([]byte, c.n), c.allZero)
		}
	}
	if sip.Sum(rising, nil) != sip.Sum(rising, []byte{}) {
		t.Error("Sum of nil is not that of an empty list")
	}
}

// P4.1: literal values for keys of which one word, or all of the other, is zero.
func TestSumUnderUnlikeWords(t *testing.T) {
	for _, c := range []struct {
		k            api.SipKey
		nothing, abc uint64
	}{
		{api.SipKey{1, 0}, 0x54e761ac4b1ca3de, 0x4f4bd7030974e1cb},
		{api.SipKey{0, 1}, 0xc4235c5247d6521c, 0xe38f8da8e6d92988},
		{api.SipKey{1 << 63, 0}, 0x620f794693c9a5b9, 0x3faefa5cd8cb688f},
		{api.SipKey{0, 1 << 63}, 0x87f7600ac7c98ce8, 0xf6b1103761fdf238},
		{api.SipKey{math.MaxUint64, 0}, 0xa4e3fdab06a40925, 0x138c82387e5e3562},
		{api.SipKey{0, math.MaxUint64}, 0x4d0617e48cf8737b, 0xdab972e63b7efb8a},
		{api.SipKey{0x0123456789abcdef, 0xfedcba9876543210}, 0xb7e67c99394ba858, 0x1717140556d16a7c},
	} {
		if got := sip.Sum(c.k, nil); got != c.nothing {
			t.Errorf("Sum under %x of nothing = 0x%016x, want 0x%016x", c.k, got, c.nothing)
		}
		if got := sip.Sum(c.k, []byte("abc")); got != c.abc {
			t.Errorf("Sum under %x of abc = 0x%016x, want 0x%016x", c.k, got, c.abc)
		}
	}
}

// P4.1: messages of all lengths up to several times 256, under keys that differ in every bit.
func TestSumOfAllLengths(t *testing.T) {
	for _, k := range []api.SipKey{{}, ones, rising, {rising[1], rising[0]}} {
		for n := range 800 {
			for _, b := range [][]byte{counted(n), zeroEnded(n), make([]byte, n), bytes.Repeat([]byte{255}, n)} {
				if got, want := sip.Sum(k, b), reference(k, b); got != want {
					t.Errorf("Sum under %x of the %d bytes %.20x = 0x%016x, want 0x%016x", k, n, b, got, want)
				}
			}
		}
	}
}

// P4.1: every bit of the key and of the message has the effect that the chapter says.
func TestSumOfAllBits(t *testing.T) {
	check := func(k api.SipKey, b []byte) {
		t.Helper()
		if got, want := sip.Sum(k, b), reference(k, b); got != want {
			t.Errorf("Sum(%x, %x) = 0x%016x, want 0x%016x", k, b, got, want)
		}
	}
	for i := range 128 {
		for _, k := range []api.SipKey{{}, ones, rising} {
			k[i/64] ^= 1 << (i % 64)
			for _, n := range ends {
				check(k, counted(n))
			}
		}
	}
	for i := range 8 * 17 {
		for n := i/8 + 1; n <= 17; n++ {
			b := make([]byte, n)
			b[i/8] = 1 << (i % 8)
			check(api.SipKey{}, b)
			check(rising, b)
		}
	}
	r := rand.New(rand.NewPCG(4, 1))
	for range 2000 {
		b := make([]byte, r.IntN(64))
		for i := range b {
			b[i] = byte(r.Uint32())
		}
		check(api.SipKey{r.Uint64(), r.Uint64()}, b)
	}
}

// P4.1: the length counts, so zeros behind a message make a difference, at the ends of words, too.
func TestSumOfZerosBehindAMessage(t *testing.T) {
	for _, n := range ends {
		seen := map[uint64]int{}
		for zeros := range 20 {
			got := sip.Sum(rising, append(counted(n), make([]byte, zeros)...))
			if before, ok := seen[got]; ok {
				t.Errorf("%d bytes have the same value with %d and with %d zeros", n, before, zeros)
			}
			seen[got] = zeros
		}
	}
}

// P4.2: literal values; that for 2^63 and 10 is the example.
func TestScaleOfEdges(t *testing.T) {
	const top, most = 1 << 63, math.MaxUint64
	for _, c := range []struct{ h, n, want uint64 }{
		{0, 0, 0}, {0, 1, 0}, {0, top, 0}, {0, most, 0},
		{1, 0, 0}, {1, 1, 0}, {1, top, 0}, {1, most, 0},
		{top, 0, 0}, {top, 1, 0}, {top, 2, 1}, {top, 10, 5}, {top, 11, 5}, {top, top, 1 << 62}, {top, most, 1<<63 - 1},
		{most, 0, 0}, {most, 1, 0}, {most, 2, 1}, {most, 10, 9}, {most, top, 1<<63 - 1}, {most, most, most - 1},
		{top - 1, 2, 0}, {top - 1, 10, 4}, {1 << 32, 1 << 32, 1}, {1 << 32, 1<<32 - 1, 0}, {1<<32 + 1, 1<<32 + 1, 1},
		// The products that follow are one below a multiple of 2^64: their low half is all ones.
		{3, 0x5555555555555555, 0}, {641, 0x663d80ff99c27f, 0}, {1<<32 - 1, 1<<32 + 1, 0}, {31, 0x1084210842108421, 1},
		{1<<63 - 1, 1<<63 + 1, 1<<62 - 1},
	} {
		if got := sip.Scale(c.h, c.n); got != c.want {
			t.Errorf("Scale(%d, %d) = %d, want %d", c.h, c.n, got, c.want)
		}
		if got := sip.Scale(c.n, c.h); got != c.want {
			t.Errorf("Scale(%d, %d) = %d, want %d", c.n, c.h, got, c.want)
		}
	}
}

// scaled returns the integer part of h * n / 2^64, reckoned with numbers that do not overflow.
func scaled(h, n uint64) uint64 {
	p := new(big.Int).Mul(new(big.Int).SetUint64(h), new(big.Int).SetUint64(n))
	return p.Rsh(p, 64).Uint64()
}

// negativeInverse returns the number whose product with h, which is odd, has a low half that is all ones.
func negativeInverse(h uint64) uint64 {
	m := new(big.Int).Lsh(big.NewInt(1), 64)
	i := new(big.Int).ModInverse(new(big.Int).SetUint64(h), m)
	return i.Sub(m, i).Uint64()
}

// P4.2: all pairs of edges and of powers of 2, and products at both sides of a multiple of 2^64.
func TestScaleOfPairs(t *testing.T) {
	numbers := append([]uint64{}, edges...)
	for i := range 64 {
		numbers = append(numbers, 1<<i, 1<<i-1, 1<<i+1)
	}
	check := func(h, n uint64) {
		t.Helper()
		if got, want := sip.Scale(h, n), scaled(h, n); got != want {
			t.Errorf("Scale(%d, %d) = %d, want %d", h, n, got, want)
		}
	}
	for _, h := range numbers {
		for _, n := range numbers {
			check(h, n)
		}
	}
	r := rand.New(rand.NewPCG(4, 2))
	for range 2000 {
		h := r.Uint64() | 1
		n := negativeInverse(h)
		if h*n != math.MaxUint64 {
			t.Fatalf("the low half of %d * %d is not all ones", h, n)
		}
		check(h, n)
		check(h, n+1)
		check(h, -n)
		check(h, r.Uint64()>>r.IntN(64))
	}
}

// Consequences: what is scaled is below n, or 0 for n = 0.
func TestScaleIsBelow(t *testing.T) {
	for _, h := range edges {
		if got := sip.Scale(h, 0); got != 0 {
			t.Errorf("Scale(%d, 0) = %d", h, got)
		}
		for _, n := range edges[1:] {
			if got := sip.Scale(h, n); got >= n {
				t.Errorf("Scale(%d, %d) = %d", h, n, got)
			}
		}
	}
}

// Consequences: what is scaled does not decrease if h grows, and takes each value below n where h takes enough of them.
func TestScaleGrows(t *testing.T) {
	for _, n := range append([]uint64{7, 100, 1533, 4096 * 1533}, edges...) {
		for i := range 2 * len(edges) {
			h := edges[i/2] + uint64(i%2)
			if h > 0 && sip.Scale(h-1, n) > sip.Scale(h, n) {
				t.Errorf("Scale(%d, %d) is above Scale(%d, %d)", h-1, n, h, n)
			}
		}
		before := uint64(0)
		for i := range 1000 {
			got := sip.Scale(uint64(i)<<54, n)
			if got < before || n <= 500 && got > before+1 {
				t.Errorf("Scale(%d, %d) = %d after %d", uint64(i)<<54, n, got, before)
			}
			before = got
		}
	}
}

// P4.3: literal values, for digests whose bytes all differ.
func TestKeyOfEdges(t *testing.T) {
	for _, c := range []struct {
		h    api.Hash
		want api.SipKey
	}{
		{api.Hash{}, api.SipKey{}},
		{api.Hash(upTo(32)), rising},
		{api.Hash(counted(32)), api.SipKey{0x322b241d160f0801, 0x6a635c554e474039}},
		{api.Hash(bytes.Repeat([]byte{255}, 32)), ones},
		{api.Hash{0: 1}, api.SipKey{1, 0}},
		{api.Hash{7: 128}, api.SipKey{1 << 63, 0}},
		{api.Hash{8: 1}, api.SipKey{0, 1}},
		{api.Hash{15: 128}, api.SipKey{0, 1 << 63}},
		{api.Hash{16: 1}, api.SipKey{}},
		{api.Hash{31: 255}, api.SipKey{}},
	} {
		if got := sip.Key(c.h); got != c.want {
			t.Errorf("Key(%x) = %x, want %x", c.h, got, c.want)
		}
	}
}

// P4.3: every bit of the first 16 bytes has its place, and the others have none.
func TestKeyOfAllBits(t *testing.T) {
	for _, from := range []api.Hash{{}, api.Hash(upTo(32)), api.Hash(counted(32))} {
		before := sip.Key(from)
		if before[0] != binary.LittleEndian.Uint64(from[:8]) || before[1] != binary.LittleEndian.Uint64(from[8:16]) {
			t.Errorf("Key(%x) = %x", from, before)
		}
		for i := range 256 {
			h, want := from, before
			h[i/8] ^= 1 << (i % 8)
			if i < 128 {
				want[i/64] ^= 1 << (i % 64)
			}
			if got := sip.Key(h); got != want {
				t.Errorf("Key(%x) = %x, want %x", h, got, want)
			}
		}
	}
}

// Rule 1: nothing is written to a message nor behind its end, and what lies there has no effect.
func TestMemoryStaysApart(t *testing.T) {
	for _, n := range ends {
		all := append(counted(n), bytes.Repeat([]byte{77}, 64)...)
		kept := append([]byte{}, all...)
		got := sip.Sum(rising, all[:n])
		if !bytes.Equal(all, kept) {
			t.Errorf("a message of %d bytes, or what lies behind it, has changed", n)
		}
		if want := sip.Sum(rising, counted(n)); got != want {
			t.Errorf("Sum of %d bytes with others behind them = 0x%016x, want 0x%016x", n, got, want)
		}
	}
}

// FuzzSums looks for arguments for which a value is not the one that the chapter says, or a function panics (P1).
func FuzzSums(f *testing.F) {
	f.Add(uint64(0), uint64(0), []byte{})
	f.Add(uint64(math.MaxUint64), uint64(1), counted(7))
	f.Add(rising[0], rising[1], upTo(15))
	f.Add(rising[0], rising[1], make([]byte, 256))
	f.Fuzz(func(t *testing.T, x, y uint64, b []byte) {
		k := api.SipKey{x, y}
		if got, want := sip.Sum(k, b), reference(k, b); got != want {
			t.Errorf("Sum(%x, %x) = 0x%016x, want 0x%016x", k, b, got, want)
		}
		if got, _ := bits.Mul64(x, y); sip.Scale(x, y) != got || got != scaled(x, y) {
			t.Errorf("Scale(%d, %d) = %d", x, y, sip.Scale(x, y))
		}
		var h api.Hash
		copy(h[:], b)
		if got := sip.Key(h); got[0] != binary.LittleEndian.Uint64(h[:8]) || got[1] != binary.LittleEndian.Uint64(h[8:16]) {
			t.Errorf("Key(%x) = %x", h, got)
		}
	})
}

// BenchmarkSum measures the value of a script of the usual size, and of a long message.
func BenchmarkSum(b *testing.B) {
	for name, n := range map[string]int{"34": 34, "65536": 1 << 16} {
		b.Run(name, func(b *testing.B) {
			m := counted(n)
			b.SetBytes(int64(n))
			for b.Loop() {
				sip.Sum(rising, m)
			}
		})
	}
}
