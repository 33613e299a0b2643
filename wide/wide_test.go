package wide_test

import (
	"math"
	"math/big"
	"math/rand/v2"
	"strings"
	"testing"

	"lightclient/api"
	"lightclient/wide"
)

var (
	zero = api.U256{}
	one  = api.U256{1}
	two  = api.U256{2}
	half = api.U256{3: 1 << 63} // 2^255
	most = api.U256{math.MaxUint64, math.MaxUint64, math.MaxUint64, math.MaxUint64}
	full = new(big.Int).Lsh(big.NewInt(1), 256) // 2^256
)

// mostText is 2^256 - 1, overText is 2^256.
const (
	mostText = "115792089237316195423570985008687907853269984665640564039457584007913129639935"
	overText = "115792089237316195423570985008687907853269984665640564039457584007913129639936"
)

// number returns a as package big has it. It does not go through the functions that are tested.
func number(a api.U256) *big.Int {
	n := new(big.Int)
	for i := 3; i >= 0; i-- {
		n.Lsh(n, 64)
		n.Or(n, new(big.Int).SetUint64(a[i]))
	}
	return n
}

// words returns n modulo 2^256.
func words(n *big.Int) api.U256 {
	rest := new(big.Int).Mod(n, full)
	var a api.U256
	for i := range a {
		a[i] = new(big.Int).And(rest, new(big.Int).SetUint64(math.MaxUint64)).Uint64()
		rest.Rsh(rest, 64)
	}
	return a
}

// edges are the numbers at which words, carries and lengths change.
func edges() []api.U256 {
	l := []api.U256{
		zero, one, two, {3}, {7}, {10},
		{math.MaxUint64}, {0, 1}, {1, 1}, {0, math.MaxUint64},
		{math.MaxUint64, math.MaxUint64}, {0, 0, 1}, {math.MaxUint64, 0, 1},
		{math.MaxUint64, math.MaxUint64, math.MaxUint64}, {0, 0, 0, 1}, {1, 0, 0, 1},
		{math.MaxUint64, math.MaxUint64, math.MaxUint64, 1<<63 - 1}, half, {1, 0, 0, 1 << 63},
		{0, 0, 0, math.MaxUint64}, {math.MaxUint64, 0, math.MaxUint64, 0}, {0, math.MaxUint64, 0, math.MaxUint64},
		{math.MaxUint64 - 36112, math.MaxUint64, math.MaxUint64, math.MaxUint64}, // the prime of chapter 5
		{math.MaxUint64 - 1, math.MaxUint64, math.MaxUint64, math.MaxUint64}, most,
	}
	return append(l, randoms(6, 1)...)
}

// randoms returns count numbers of all lengths, the same ones for the same seed.
func randoms(count int, seed uint64) []api.U256 {
	r := rand.New(rand.NewPCG(seed, 2))
	var l []api.U256
	for range count {
		n := number(api.U256{r.Uint64(), r.Uint64(), r.Uint64(), r.Uint64()})
		l = append(l, words(n.Rsh(n, uint(r.IntN(256)))))
	}
	return l
}

// P2.1: the number of one word.
func TestFromUint(t *testing.T) {
	for _, n := range []uint64{0, 1, 255, 1 << 32, 1 << 63, math.MaxUint64} {
		if a := wide.FromUint(n); a != (api.U256{n, 0, 0, 0}) {
			t.Errorf("FromUint(%d) = %x", n, a)
		}
	}
}

// P2.1: the big-endian form.
func TestBytes(t *testing.T) {
	var h api.Hash
	for i := range h {
		h[i] = byte(i + 1)
	}
	a := api.U256{0x191a1b1c1d1e1f20, 0x1112131415161718, 0x090a0b0c0d0e0f10, 0x0102030405060708}
	if got := wide.FromBytes(h); got != a {
		t.Errorf("FromBytes of 1, 2, .. = %x, want %x", got, a)
	}
	if got := wide.Bytes(a); got != h {
		t.Errorf("Bytes of %x = %x, want %x", a, got, h)
	}
	if got := wide.Bytes(one); got != (api.Hash{31: 1}) {
		t.Errorf("Bytes of 1 = %x", got)
	}
	if got := wide.FromBytes(api.Hash{0: 0x80}); got != half {
		t.Errorf("FromBytes of 128, 0, 0, .. = %x", got)
	}
	for _, a := range edges() {
		var want api.Hash
		number(a).FillBytes(want[:])
		if got := wide.Bytes(a); got != want {
			t.Errorf("Bytes of %x = %x, want %x", a, got, want)
		}
		if got := wide.FromBytes(want); got != a {
			t.Errorf("FromBytes of %x = %x, want %x", want, got, a)
		}
	}
	for i := range 256 {
		a := words(new(big.Int).Lsh(big.NewInt(1), uint(i)))
		var h api.Hash
		h[31-i/8] = 1 << (i % 8)
		if got := wide.Bytes(a); got != h {
			t.Errorf("Bytes of 2^%d = %x", i, got)
		}
		if got := wide.FromBytes(h); got != a {
			t.Errorf("FromBytes of 2^%d = %x", i, got)
		}
	}
}

// P2.1: comparisons; the words of a number weigh differently.
func TestCmp(t *testing.T) {
	for _, c := range []struct {
		a, b api.U256
		want int
	}{
		{zero, zero, 0}, {most, most, 0}, {zero, one, -1}, {one, zero, 1}, {zero, most, -1}, {most, zero, 1},
		{api.U256{math.MaxUint64}, api.U256{0, 1}, -1},
		{api.U256{0, 1}, api.U256{math.MaxUint64}, 1},
		{api.U256{math.MaxUint64, math.MaxUint64, math.MaxUint64, 1}, api.U256{0, 0, 0, 2}, -1},
		{api.U256{0, 0, 5, 7}, api.U256{9, 9, 4, 7}, 1},
		{api.U256{1, 2, 3, 4}, api.U256{2, 2, 3, 4}, -1},
		{half, api.U256{math.MaxUint64, math.MaxUint64, math.MaxUint64, 1<<63 - 1}, 1},
	} {
		if got := wide.Cmp(c.a, c.b); got != c.want {
			t.Errorf("Cmp(%x, %x) = %d, want %d", c.a, c.b, got, c.want)
		}
	}
	for _, a := range edges() {
		for _, b := range edges() {
			if got, want := wide.Cmp(a, b), number(a).Cmp(number(b)); got != want {
				t.Errorf("Cmp(%x, %x) = %d, want %d", a, b, got, want)
			}
		}
	}
}

// P2.1: lengths, at every bit.
func TestLen(t *testing.T) {
	if n := wide.Len(zero); n != 0 {
		t.Errorf("Len(0) = %d", n)
	}
	if n := wide.Len(most); n != 256 {
		t.Errorf("Len(2^256 - 1) = %d", n)
	}
	for i := range 256 {
		power := new(big.Int).Lsh(big.NewInt(1), uint(i))
		if n := wide.Len(words(power)); n != i+1 {
			t.Errorf("Len(2^%d) = %d", i, n)
		}
		if n := wide.Len(words(power.Sub(power, big.NewInt(1)))); n != i {
			t.Errorf("Len(2^%d - 1) = %d", i, n)
		}
	}
}

// P2.2: carries and borrows through all words, and at each of them.
func TestCarries(t *testing.T) {
	for _, c := range []struct {
		a, b, sum api.U256
		carry     bool
	}{
		{zero, zero, zero, false},
		{most, zero, most, false},
		{most, one, zero, true},
		{one, most, zero, true},
		{most, most, api.U256{math.MaxUint64 - 1, math.MaxUint64, math.MaxUint64, math.MaxUint64}, true},
		{half, half, zero, true},
		{api.U256{math.MaxUint64}, one, api.U256{0, 1}, false},
		{api.U256{math.MaxUint64, math.MaxUint64}, one, api.U256{0, 0, 1}, false},
		{api.U256{math.MaxUint64, math.MaxUint64, math.MaxUint64}, one, api.U256{0, 0, 0, 1}, false},
		{api.U256{1, math.MaxUint64, 0, 5}, api.U256{2, 1, 0, 6}, api.U256{3, 0, 1, 11}, false},
		{api.U256{0, 0, 0, math.MaxUint64}, api.U256{7, 0, 0, 1}, api.U256{7}, true},
	} {
		if sum, carry := wide.Add(c.a, c.b); sum != c.sum || carry != c.carry {
			t.Errorf("Add(%x, %x) = %x, %v, want %x, %v", c.a, c.b, sum, carry, c.sum, c.carry)
		}
		if a, borrow := wide.Sub(c.sum, c.b); a != c.a || borrow != c.carry {
			t.Errorf("Sub(%x, %x) = %x, %v, want %x, %v", c.sum, c.b, a, borrow, c.a, c.carry)
		}
	}
	if d, borrow := wide.Sub(zero, one); d != most || !borrow {
		t.Errorf("Sub(0, 1) = %x, %v", d, borrow)
	}
	if d, borrow := wide.Sub(one, one); d != zero || borrow {
		t.Errorf("Sub(1, 1) = %x, %v", d, borrow)
	}
}

// P2.2: sums and differences of all pairs.
func TestAddSub(t *testing.T) {
	for _, a := range edges() {
		for _, b := range edges() {
			exact := new(big.Int).Add(number(a), number(b))
			if sum, carry := wide.Add(a, b); sum != words(exact) || carry != (exact.Cmp(full) >= 0) {
				t.Errorf("Add(%x, %x) = %x, %v", a, b, sum, carry)
			}
			exact.Sub(number(a), number(b))
			if d, borrow := wide.Sub(a, b); d != words(exact) || borrow != (exact.Sign() < 0) {
				t.Errorf("Sub(%x, %x) = %x, %v", a, b, d, borrow)
			}
		}
	}
}

// P2.2: products, in both halves.
func TestMul(t *testing.T) {
	for _, c := range []struct{ a, b, hi, lo api.U256 }{
		{zero, most, zero, zero},
		{one, most, zero, most},
		{half, api.U256{4}, two, zero},
		{half, two, one, zero},
		{most, most, api.U256{math.MaxUint64 - 1, math.MaxUint64, math.MaxUint64, math.MaxUint64}, one},
		{api.U256{math.MaxUint64}, api.U256{math.MaxUint64}, zero, api.U256{1, math.MaxUint64 - 1}},
		{api.U256{0, 0, 0, 1}, api.U256{0, 0, 0, 1}, api.U256{0, 0, 1}, zero},
		{api.U256{1, 2, 3, 4}, api.U256{5, 6, 7, 8}, api.U256{61, 52, 32}, api.U256{5, 16, 34, 60}},
	} {
		if hi, lo := wide.Mul(c.a, c.b); hi != c.hi || lo != c.lo {
			t.Errorf("Mul(%x, %x) = %x, %x, want %x, %x", c.a, c.b, hi, lo, c.hi, c.lo)
		}
	}
	for _, a := range edges() {
		for _, b := range edges() {
			exact := new(big.Int).Mul(number(a), number(b))
			if hi, lo := wide.Mul(a, b); lo != words(exact) || hi != words(new(big.Int).Rsh(exact, 256)) {
				t.Errorf("Mul(%x, %x) = %x, %x", a, b, hi, lo)
			}
		}
	}
}

// P2.2: complements.
func TestNot(t *testing.T) {
	if a := wide.Not(zero); a != most {
		t.Errorf("Not(0) = %x", a)
	}
	for _, a := range edges() {
		if got, want := wide.Not(a), words(new(big.Int).Sub(number(most), number(a))); got != want {
			t.Errorf("Not(%x) = %x, want %x", a, got, want)
		}
	}
}

// P2.3: divisions that are possible, and those just beyond.
func TestDivisions(t *testing.T) {
	for name, c := range map[string]struct {
		hi, lo, b, q, r api.U256
		ok              bool
	}{
		"7 by 2":                    {zero, api.U256{7}, two, api.U256{3}, one, true},
		"0 by 1":                    {zero, zero, one, zero, zero, true},
		"0 by the greatest":         {zero, zero, most, zero, zero, true},
		"by 1":                      {zero, most, one, most, zero, true},
		"by itself":                 {zero, most, most, one, zero, true},
		"by one more":               {zero, half, api.U256{1, 0, 0, 1 << 63}, zero, half, true},
		"a power by a power":        {zero, half, api.U256{0, 1}, api.U256{0, 0, 1 << 63}, zero, true},
		"2^256 by 2":                {one, zero, two, half, zero, true},
		"2^256 by 3":                {one, zero, api.U256{3}, api.U256{0x5555555555555555, 0x5555555555555555, 0x5555555555555555, 0x5555555555555555}, one, true},
		"2^256 by the greatest":     {one, zero, most, one, one, true},
		"one greater than hi":       {api.U256{6}, most, api.U256{7}, most, api.U256{6}, true},
		"the greatest that fits":    {api.U256{math.MaxUint64 - 1, math.MaxUint64, math.MaxUint64, math.MaxUint64}, most, most, most, api.U256{math.MaxUint64 - 1, math.MaxUint64, math.MaxUint64, math.MaxUint64}, true},
		"a bit above the remainder": {api.U256{0, 0, 0, 1 << 63}, zero, api.U256{1, 0, 0, 1 << 63}, api.U256{math.MaxUint64 - 1, math.MaxUint64, math.MaxUint64, math.MaxUint64}, two, true},
		"by 0":                      {zero, api.U256{7}, zero, zero, zero, false},
		"0 by 0":                    {zero, zero, zero, zero, zero, false},
		"all by 0":                  {most, most, zero, zero, zero, false},
		"b is hi":                   {two, zero, two, zero, zero, false},
		"b is hi, great":            {most, zero, most, zero, zero, false},
		"b is below hi":             {two, api.U256{5}, one, zero, zero, false},
		"b is below hi by a word":   {api.U256{0, 0, 0, 1}, api.U256{5}, api.U256{9, 9, 9}, zero, zero, false},
	} {
		if q, r, ok := wide.Div(c.hi, c.lo, c.b); q != c.q || r != c.r || ok != c.ok {
			t.Errorf("%s: %x, %x, %v, want %x, %x, %v", name, q, r, ok, c.q, c.r, c.ok)
		}
	}
}

// checkDiv compares a division with that of package big.
func checkDiv(t *testing.T, hi, lo, b api.U256) {
	t.Helper()
	q, r, ok := wide.Div(hi, lo, b)
	if number(b).Cmp(number(hi)) <= 0 {
		if q != zero || r != zero || ok {
			t.Errorf("Div(%x, %x, %x) = %x, %x, %v, want false", hi, lo, b, q, r, ok)
		}
		return
	}
	exact := new(big.Int).Lsh(number(hi), 256)
	exact.Or(exact, number(lo))
	quotient, remainder := new(big.Int).QuoRem(exact, number(b), new(big.Int))
	if number(q).Cmp(quotient) != 0 || number(r).Cmp(remainder) != 0 || !ok {
		t.Errorf("Div(%x, %x, %x) = %x, %x, %v, want %x, %x", hi, lo, b, q, r, ok, quotient, remainder)
	}
}

// P2.3: divisions of all edges by all edges, and by what is around hi.
func TestDiv(t *testing.T) {
	for _, hi := range edges() {
		above := words(new(big.Int).Add(number(hi), big.NewInt(1)))
		below := words(new(big.Int).Sub(number(hi), big.NewInt(1)))
		for _, lo := range edges() {
			for _, b := range append(edges(), above, hi, below) {
				checkDiv(t, hi, lo, b)
			}
		}
	}
	l := randoms(600, 3)
	for i := 0; i < len(l); i += 3 {
		checkDiv(t, zero, l[i], l[i+1])
		checkDiv(t, l[i], l[i+1], l[i+2])
		checkDiv(t, l[i], l[i+1], words(new(big.Int).SetBit(number(l[i+2]), 255, 1)))
	}
}

// P2.4: all distances, and those that are far out.
func TestShifts(t *testing.T) {
	far := []int{math.MinInt, math.MinInt + 1, -257, -256, -65, -64, -63, -2, -1, 257, 319, 320, 321, 1 << 20, 1 << 32, 1<<32 + 1, math.MaxInt - 63, math.MaxInt}
	for _, a := range edges() {
		for _, n := range far {
			want := zero
			if n < 0 {
				want = a
			}
			if got := wide.Shl(a, n); got != want {
				t.Errorf("Shl(%x, %d) = %x, want %x", a, n, got, want)
			}
			if got := wide.Shr(a, n); got != want {
				t.Errorf("Shr(%x, %d) = %x, want %x", a, n, got, want)
			}
		}
		for n := range 257 {
			if got, want := wide.Shl(a, n), words(new(big.Int).Lsh(number(a), uint(n))); got != want {
				t.Errorf("Shl(%x, %d) = %x, want %x", a, n, got, want)
			}
			if got, want := wide.Shr(a, n), words(new(big.Int).Rsh(number(a), uint(n))); got != want {
				t.Errorf("Shr(%x, %d) = %x, want %x", a, n, got, want)
			}
		}
	}
	a := api.U256{0x0123456789abcdef, 0xfedcba9876543210, 0x0f1e2d3c4b5a6978, 0x8796a5b4c3d2e1f0}
	for n, want := range map[int]api.U256{
		0:   a,
		4:   {0x123456789abcdef0, 0xedcba98765432100, 0xf1e2d3c4b5a6978f, 0x796a5b4c3d2e1f00},
		64:  {0, a[0], a[1], a[2]},
		68:  {0, 0x123456789abcdef0, 0xedcba98765432100, 0xf1e2d3c4b5a6978f},
		192: {0, 0, 0, a[0]},
		255: {0, 0, 0, 1 << 63},
		256: {},
	} {
		if got := wide.Shl(a, n); got != want {
			t.Errorf("Shl by %d = %x, want %x", n, got, want)
		}
	}
	for n, want := range map[int]api.U256{
		0:   a,
		4:   {0x00123456789abcde, 0x8fedcba987654321, 0x00f1e2d3c4b5a697, 0x08796a5b4c3d2e1f},
		64:  {a[1], a[2], a[3], 0},
		192: {a[3]},
		255: {1},
		256: {},
	} {
		if got := wide.Shr(a, n); got != want {
			t.Errorf("Shr by %d = %x, want %x", n, got, want)
		}
	}
}

// P2.5: sums, differences and products with small results.
func TestModuli(t *testing.T) {
	seven := api.U256{7}
	for name, c := range map[string]struct{ got, want api.U256 }{
		"5 + 4 modulo 7":              {wide.AddMod(api.U256{5}, api.U256{4}, seven), two},
		"3 + 4 modulo 7":              {wide.AddMod(api.U256{3}, api.U256{4}, seven), zero},
		"a sum above 2^256":           {wide.AddMod(most, most, seven), two}, // 2^256 is 2 modulo 7
		"a sum above 2^256, great m":  {wide.AddMod(most, two, most), two},   // 2^256 + 1 less 2^256 - 1
		"a sum of 2^256":              {wide.AddMod(half, half, most), one},  // 2^256 less 2^256 - 1
		"3 - 5 modulo 7":              {wide.SubMod(api.U256{3}, api.U256{5}, seven), api.U256{5}},
		"5 - 3 modulo 7":              {wide.SubMod(api.U256{5}, api.U256{3}, seven), two},
		"5 - 5 modulo 7":              {wide.SubMod(api.U256{5}, api.U256{5}, seven), zero},
		"5 - 12 modulo 7":             {wide.SubMod(api.U256{5}, api.U256{12}, seven), zero},
		"0 - 1 modulo 7":              {wide.SubMod(zero, one, seven), api.U256{6}},
		"0 - 1 modulo the greatest":   {wide.SubMod(zero, one, most), api.U256{math.MaxUint64 - 1, math.MaxUint64, math.MaxUint64, math.MaxUint64}},
		"0 - (2^256 - 1) modulo 7":    {wide.SubMod(zero, most, seven), api.U256{6}}, // 2^256 - 1 is 1 modulo 7
		"5 * 4 modulo 7":              {wide.MulMod(api.U256{5}, api.U256{4}, seven), api.U256{6}},
		"(2^256 - 1)^2 modulo 7":      {wide.MulMod(most, most, seven), one},
		"2^510 modulo 2^255 + 1":      {wide.MulMod(half, half, api.U256{1, 0, 0, 1 << 63}), one},
		"2^510 modulo 2^255":          {wide.MulMod(half, half, half), zero},
		"3^4 modulo 7":                {wide.ExpMod(api.U256{3}, api.U256{4}, seven), api.U256{4}},
		"2^255 modulo 2^256 - 1":      {wide.ExpMod(two, api.U256{255}, most), half},
		"2^256 modulo 2^256 - 1":      {wide.ExpMod(two, api.U256{256}, most), one},
		"0^0 modulo 7":                {wide.ExpMod(zero, zero, seven), one},
		"0^0 modulo 1":                {wide.ExpMod(zero, zero, one), zero},
		"5^0 modulo 1":                {wide.ExpMod(api.U256{5}, zero, one), zero},
		"5^0 modulo 0":                {wide.ExpMod(api.U256{5}, zero, zero), zero},
		"0^5 modulo 7":                {wide.ExpMod(zero, api.U256{5}, seven), zero},
		"5^1 modulo 7":                {wide.ExpMod(api.U256{5}, one, seven), api.U256{5}},
		"12^1 modulo 7":               {wide.ExpMod(api.U256{12}, one, seven), api.U256{5}},
		"5^0 modulo the greatest":     {wide.ExpMod(api.U256{5}, zero, most), one},
		"5^(2^64) modulo 7":           {wide.ExpMod(api.U256{5}, api.U256{0, 1}, seven), api.U256{2}}, // 2^64 is 4 modulo 6
		"5^(2^255) modulo 7":          {wide.ExpMod(api.U256{5}, half, seven), api.U256{4}},           // 2^255 is 2 modulo 6
		"the greatest to itself, mod": {wide.ExpMod(most, most, seven), one},
	} {
		if c.got != c.want {
			t.Errorf("%s: %x, want %x", name, c.got, c.want)
		}
	}
}

// modulo returns n modulo m, from 0 on; 0 if m is 0.
func modulo(n *big.Int, m api.U256) api.U256 {
	if m == zero {
		return zero
	}
	return words(new(big.Int).Mod(n, number(m)))
}

// checkModular compares the results of the three functions with those of package big.
func checkModular(t *testing.T, a, b, m api.U256) {
	t.Helper()
	if got, want := wide.AddMod(a, b, m), modulo(new(big.Int).Add(number(a), number(b)), m); got != want {
		t.Errorf("AddMod(%x, %x, %x) = %x, want %x", a, b, m, got, want)
	}
	if got, want := wide.SubMod(a, b, m), modulo(new(big.Int).Sub(number(a), number(b)), m); got != want {
		t.Errorf("SubMod(%x, %x, %x) = %x, want %x", a, b, m, got, want)
	}
	if got, want := wide.MulMod(a, b, m), modulo(new(big.Int).Mul(number(a), number(b)), m); got != want {
		t.Errorf("MulMod(%x, %x, %x) = %x, want %x", a, b, m, got, want)
	}
}

// checkExp compares a power with that of package big.
func checkExp(t *testing.T, a, e, m api.U256) {
	t.Helper()
	want := zero
	if m != zero {
		want = words(new(big.Int).Exp(number(a), number(e), number(m)))
	}
	if got := wide.ExpMod(a, e, m); got != want {
		t.Errorf("ExpMod(%x, %x, %x) = %x, want %x", a, e, m, got, want)
	}
}

// P2.5: all edges modulo all edges, 0 and 1 among them.
func TestModular(t *testing.T) {
	for _, a := range edges() {
		for _, b := range edges() {
			for _, m := range edges() {
				checkModular(t, a, b, m)
			}
		}
	}
}

// P2.5: powers modulo 0, 1 and others.
func TestExpMod(t *testing.T) {
	for _, m := range edges() {
		for _, a := range []api.U256{zero, one, two, {0, 0, 0, 1}, half, most} {
			for _, e := range []api.U256{zero, one, two, {3}, {math.MaxUint64}, {0, 1}, half, most} {
				checkExp(t, a, e, m)
			}
		}
	}
	l := randoms(90, 4)
	for i := 0; i < len(l); i += 3 {
		checkExp(t, l[i], l[i+1], l[i+2])
	}
}

// P2.6: decimal digits.
func TestText(t *testing.T) {
	for want, a := range map[string]api.U256{
		"0":                    zero,
		"1":                    one,
		"9":                    {9},
		"10":                   {10},
		"100":                  {100},
		"1000000000000000000":  {1000000000000000000},
		"18446744073709551615": {math.MaxUint64},
		"18446744073709551616": {0, 1},
		"340282366920938463463374607431768211456":                                       {0, 0, 1},
		"57896044618658097711785492504343953926634992332820282019728792003956564819968": half,
		mostText: most,
	} {
		if got := wide.Text(a); got != want {
			t.Errorf("Text(%x) = %q, want %q", a, got, want)
		}
	}
	for _, a := range append(edges(), randoms(200, 5)...) {
		if got, want := wide.Text(a), number(a).String(); got != want {
			t.Errorf("Text(%x) = %q, want %q", a, got, want)
		}
	}
	for digits := range 78 {
		power := new(big.Int).Exp(big.NewInt(10), big.NewInt(int64(digits)), nil)
		if got, want := wide.Text(words(power)), "1"+strings.Repeat("0", digits); got != want {
			t.Errorf("Text(10^%d) = %q", digits, got)
		}
	}
}

// P2.6: texts and the errors in their order.
func TestParse(t *testing.T) {
	zeros := strings.Repeat("0", 101)
	nines := strings.Repeat("9", 101)
	for name, c := range map[string]struct {
		s    string
		want api.U256
		e    api.Errno
	}{
		"zero":                        {"0", zero, api.OK},
		"a digit":                     {"7", api.U256{7}, api.OK},
		"all digits":                  {"1234567890", api.U256{1234567890}, api.OK},
		"leading zeros":               {"00012", api.U256{12}, api.OK},
		"zeros":                       {"000", zero, api.OK},
		"2^64":                        {"18446744073709551616", api.U256{0, 1}, api.OK},
		"100 zeros":                   {zeros[:100], zero, api.OK},
		"100 bytes":                   {zeros[:99] + "5", api.U256{5}, api.OK},
		"2^256 - 1":                   {mostText, most, api.OK},
		"2^256 - 1 in 100 bytes":      {zeros[:100-len(mostText)] + mostText, most, api.OK},
		"2^256":                       {overText, zero, api.ErrRange},
		"2^256 in 100 bytes":          {zeros[:100-len(overText)] + overText, zero, api.ErrRange},
		"ten times 2^256 - 1":         {mostText + "0", zero, api.ErrRange},
		"back in range modulo":        {overText + "0", zero, api.ErrRange},
		"79 digits":                   {"1" + strings.Repeat("0", 78), zero, api.ErrRange},
		"100 nines":                   {nines[:100], zero, api.ErrRange},
		"101 bytes":                   {zeros, zero, api.ErrLimit},
		"101 bytes with 2^256 - 1":    {zeros[:101-len(mostText)] + mostText, zero, api.ErrLimit},
		"limit before range":          {nines, zero, api.ErrLimit},
		"limit before text":           {strings.Repeat("x", 101), zero, api.ErrLimit},
		"text before range":           {nines[:99] + "x", zero, api.ErrText},
		"text before range, at 2^256": {overText + " ", zero, api.ErrText},
		"100 letters":                 {strings.Repeat("x", 100), zero, api.ErrText},
		"nothing":                     {"", zero, api.ErrText},
		"a space":                     {" ", zero, api.ErrText},
		"a space in front":            {" 1", zero, api.ErrText},
		"a space behind":              {"1 ", zero, api.ErrText},
		"a sign":                      {"+1", zero, api.ErrText},
		"a minus":                     {"-1", zero, api.ErrText},
		"a minus alone":               {"-", zero, api.ErrText},
		"a point":                     {"1.0", zero, api.ErrText},
		"an underscore":               {"1_000", zero, api.ErrText},
		"base 16":                     {"0x1f", zero, api.ErrText},
		"a letter":                    {"1a", zero, api.ErrText},
		"the byte below 0":            {"1/", zero, api.ErrText},
		"the byte above 9":            {"1:", zero, api.ErrText},
		"a zero byte":                 {"1\x00", zero, api.ErrText},
		"a high byte":                 {"1\xb2", zero, api.ErrText},
		"a digit of another script":   {"\u0663", zero, api.ErrText},
	} {
		if got, e := wide.Parse(c.s); got != c.want || e != c.e {
			t.Errorf("%s: Parse(%q) = %x, %d, want %x, %d", name, c.s, got, e, c.want, c.e)
		}
	}
	for x := range 256 {
		want := api.OK
		if x < '0' || x > '9' {
			want = api.ErrText
		}
		for _, s := range []string{string([]byte{byte(x)}), string([]byte{'4', byte(x), '4'})} {
			if got, e := wide.Parse(s); e != want || e != api.OK && got != zero {
				t.Errorf("Parse(%q) = %x, %d, want %d", s, got, e, want)
			}
		}
	}
}

// Consequences of the chapter, for numbers of all lengths.
func TestConsequences(t *testing.T) {
	l := append(edges(), randoms(60, 6)...)
	for i, a := range l {
		b, c, m := l[(i+7)%len(l)], l[(i+29)%len(l)], l[(i+41)%len(l)]
		if got, e := wide.Parse(wide.Text(a)); got != a || e != api.OK {
			t.Errorf("Parse of Text of %x = %x, %d", a, got, e)
		}
		sum, carry := wide.Add(a, b)
		if back, borrow := wide.Sub(sum, b); back != a || borrow != carry {
			t.Errorf("%x + %x - %x = %x", a, b, b, back)
		}
		difference, borrow := wide.Sub(a, b)
		if back, carry := wide.Add(difference, b); back != a || borrow != carry {
			t.Errorf("%x - %x + %x = %x", a, b, b, back)
		}
		if wide.MulMod(a, b, m) != wide.MulMod(b, a, m) {
			t.Errorf("%x * %x modulo %x depends on the order", a, b, m)
		}
		if wide.MulMod(wide.MulMod(a, b, m), c, m) != wide.MulMod(a, wide.MulMod(b, c, m), m) {
			t.Errorf("%x * %x * %x modulo %x depends on the grouping", a, b, c, m)
		}
		if wide.MulMod(a, wide.AddMod(b, c, m), m) != wide.AddMod(wide.MulMod(a, b, m), wide.MulMod(a, c, m), m) {
			t.Errorf("%x * (%x + %x) modulo %x is not the sum of the products", a, b, c, m)
		}
		if sum, over := wide.Add(b, c); !over && wide.ExpMod(a, sum, m) != wide.MulMod(wide.ExpMod(a, b, m), wide.ExpMod(a, c, m), m) {
			t.Errorf("%x to the power %x + %x modulo %x is not the product of the powers", a, b, c, m)
		}
		if q, r, ok := wide.Div(a, b, c); ok {
			hi, lo := wide.Mul(q, c)
			lo, carry := wide.Add(lo, r)
			if carry {
				hi, _ = wide.Add(hi, one)
			}
			if hi != a || lo != b || wide.Cmp(r, c) >= 0 {
				t.Errorf("Div(%x, %x, %x) = %x, %x leads back to %x, %x", a, b, c, q, r, hi, lo)
			}
		}
	}
}

// FuzzNumbers looks for numbers for which a result is not that of package big, or a function panics (P1).
func FuzzNumbers(f *testing.F) {
	h := func(a api.U256) []byte { return number(a).Bytes() }
	f.Add(h(zero), h(zero), h(zero), 0, "")
	f.Add(h(most), h(half), h(most), 255, mostText)
	f.Add(h(two), h(most), h(api.U256{3}), -1, overText)
	f.Fuzz(func(t *testing.T, x, y, z []byte, n int, s string) {
		a, b, c := words(new(big.Int).SetBytes(x)), words(new(big.Int).SetBytes(y)), words(new(big.Int).SetBytes(z))
		checkDiv(t, a, b, c)
		checkModular(t, a, b, c)
		checkExp(t, a, b, c)
		for _, n := range []int{n, n & 255} {
			up, down := a, a
			if n >= 256 {
				up, down = zero, zero
			} else if n > 0 {
				up, down = words(new(big.Int).Lsh(number(a), uint(n))), words(new(big.Int).Rsh(number(a), uint(n)))
			}
			if wide.Shl(a, n) != up || wide.Shr(a, n) != down {
				t.Errorf("shifts of %x by %d: %x, %x", a, n, wide.Shl(a, n), wide.Shr(a, n))
			}
		}
		if wide.Text(a) != number(a).String() || wide.Len(a) != number(a).BitLen() || wide.Cmp(a, b) != number(a).Cmp(number(b)) {
			t.Errorf("%x: Text %q, Len %d, Cmp with %x %d", a, wide.Text(a), wide.Len(a), b, wide.Cmp(a, b))
		}
		if got, e := wide.Parse(s); e != api.OK && got != zero || e == api.OK && wide.Text(got) != strings.TrimLeft(s[:len(s)-1], "0")+s[len(s)-1:] {
			t.Errorf("Parse(%q) = %x, %d", s, got, e)
		}
	})
}
