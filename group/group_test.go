package group_test

import (
	"math"
	"math/big"
	"math/rand/v2"
	"testing"

	"lightclient/api"
	"lightclient/group"
)

// p and q are written out, so that the results of Modulus and Order are not their own measure.
var (
	zero = api.U256{}
	one  = api.U256{1}
	two  = api.U256{2}
	four = api.U256{4}
	p    = api.U256{0xffffffffffff72ef, math.MaxUint64, math.MaxUint64, math.MaxUint64}
	q    = api.U256{0xffffffffffffb977, math.MaxUint64, math.MaxUint64, math.MaxUint64 >> 1}
	most = api.U256{math.MaxUint64, math.MaxUint64, math.MaxUint64, math.MaxUint64}

	full  = new(big.Int).Lsh(big.NewInt(1), 256) // 2^256
	prime = new(big.Int).Sub(full, big.NewInt(36113))
	order = new(big.Int).Rsh(prime, 1)
)

// The digests of "x" and "y": the first is a square modulo p and below q, the second is no square and above q.
var (
	x = api.U256{0x02258717921a4881, 0xc8530fb1903cc4db, 0x01627ca9fbac32f5, 0x2d711642b726b044}
	y = api.U256{0x9b37d0b11148b0fa, 0xc2682390412a8cf7, 0x8cff4b8e7875d600, 0xa1fce4363854ff88}
)

// number returns a as package big has it.
func number(a api.U256) *big.Int {
	n := new(big.Int)
	for i := 3; i >= 0; i-- {
		n.Lsh(n, 64)
		n.Or(n, new(big.Int).SetUint64(a[i]))
	}
	return n
}

// words returns n modulo 2^256.
func words(n *big.Int) api.U256 {
	rest := new(big.Int).Mod(n, full)
	var a api.U256
	for i := range a {
		a[i] = new(big.Int).And(rest, new(big.Int).SetUint64(math.MaxUint64)).Uint64()
		rest.Rsh(rest, 64)
	}
	return a
}

// near returns a + n modulo 2^256.
func near(a api.U256, n int64) api.U256 {
	return words(new(big.Int).Add(number(a), big.NewInt(n)))
}

// modulo returns n modulo m, from 0 on.
func modulo(n, m *big.Int) api.U256 { return words(new(big.Int).Mod(n, m)) }

// edges are the numbers at which words, carries and residues change.
func edges() []api.U256 {
	return []api.U256{
		zero, one, two, {3}, four, {5}, {36112}, {36113}, {36114}, {math.MaxUint64}, {0, 1}, {0, math.MaxUint64},
		{math.MaxUint64, math.MaxUint64, math.MaxUint64}, {0, 0, 0, 1}, {0, 0, 0, math.MaxUint64},
		near(q, -2), near(q, -1), q, near(q, 1), near(q, 2), {3: 1 << 63},
		near(p, -5), near(p, -4), near(p, -2), near(p, -1), p, near(p, 1), near(p, 2), near(p, 4), near(p, 5),
		near(most, -1), most, x, y,
	}
}

// exponents are those at which a power of every number is known, and those at which a word ends.
func exponents() []api.U256 {
	return []api.U256{
		zero, one, two, {3}, {math.MaxUint64}, {0, 1}, {0, 0, 1}, {0, 0, 0, 1}, {3: 1 << 63}, {0, math.MaxUint64, 0, 1},
		near(q, -1), q, near(q, 1), near(p, -2), near(p, -1), p, near(p, 1), most, x, y,
	}
}

// randoms returns count numbers of all lengths, the same ones for the same seed.
func randoms(count int, seed uint64) []api.U256 {
	r := rand.New(rand.NewPCG(seed, 5))
	var l []api.U256
	for range count {
		n := number(api.U256{r.Uint64(), r.Uint64(), r.Uint64(), r.Uint64()})
		l = append(l, words(n.Rsh(n, uint(r.IntN(256)))))
	}
	return l
}

// square returns a^2 modulo p.
func square(a api.U256) api.U256 {
	return modulo(new(big.Int).Mul(number(a), number(a)), prime)
}

// negative returns -a modulo p.
func negative(a api.U256) api.U256 {
	return modulo(new(big.Int).Neg(number(a)), prime)
}

// P5.1: the two primes.
func TestPrimes(t *testing.T) {
	if got := group.Modulus(); got != p || number(got).Cmp(prime) != 0 {
		t.Errorf("Modulus() = %x, want %x", got, p)
	}
	if got := group.Order(); got != q || number(got).Cmp(order) != 0 {
		t.Errorf("Order() = %x, want %x", got, q)
	}
	if !prime.ProbablyPrime(20) || !order.ProbablyPrime(20) {
		t.Error("p or q is no prime")
	}
	if s := number(group.Modulus()).String(); s != "115792089237316195423570985008687907853269984665640564039457584007913129603823" {
		t.Errorf("Modulus() = %s", s)
	}
	if s := number(group.Order()).String(); s != "57896044618658097711785492504343953926634992332820282019728792003956564801911" {
		t.Errorf("Order() = %s", s)
	}
}

// P5.1: members and others, at the ends of the range too.
func TestMember(t *testing.T) {
	for name, c := range map[string]struct {
		a    api.U256
		want bool
	}{
		"0":                         {zero, false},
		"1":                         {one, true},
		"2":                         {two, true},
		"3":                         {api.U256{3}, true},
		"4":                         {four, true},
		"5":                         {api.U256{5}, false},
		"6":                         {api.U256{6}, true},
		"7":                         {api.U256{7}, false},
		"9":                         {api.U256{9}, true},
		"p - 9":                     {near(p, -9), false},
		"p - 7":                     {near(p, -7), true},
		"p - 5":                     {near(p, -5), true},
		"p - 4":                     {near(p, -4), false},
		"p - 1":                     {near(p, -1), false},
		"p":                         {p, false},
		"p + 1":                     {near(p, 1), false},
		"p + 4":                     {near(p, 4), false},
		"p + 36":                    {near(p, 36), false},
		"2^256 - 1":                 {most, false}, // 36112, above p
		"2^255":                     {api.U256{3: 1 << 63}, true},
		"2^254":                     {api.U256{3: 1 << 62}, true},
		"x":                         {x, true},
		"y":                         {y, false},
		"-x":                        {negative(x), false},
		"-y":                        {negative(y), true},
		"q":                         {q, false}, // -1/2
		"(p + 1) / 2":               {near(q, 1), true},
		"2^64, whose low word is 0": {api.U256{0, 1}, true},
	} {
		if got := group.Member(c.a); got != c.want {
			t.Errorf("Member(%s) = %v, want %v", name, got, c.want)
		}
	}
}

// P5.1: squares are members, their negatives are not, and neither is anything from p on.
func TestMemberSquares(t *testing.T) {
	for _, a := range append(edges(), randoms(100, 1)...) {
		s := square(a)
		if s == zero {
			continue
		}
		if !group.Member(s) {
			t.Errorf("Member(%x) is false for the square of %x", s, a)
		}
		if group.Member(negative(s)) {
			t.Errorf("Member(%x) is true for the negative of a square", negative(s))
		}
	}
	for n := range int64(200) {
		want := n > 0 && big.Jacobi(big.NewInt(n), prime) == 1
		if got := group.Member(api.U256{uint64(n)}); got != want {
			t.Errorf("Member(%d) = %v", n, got)
		}
		if group.Member(near(p, n)) {
			t.Errorf("Member(p + %d) is true", n)
		}
		want = n > 0 && big.Jacobi(number(near(p, -n)), prime) == 1
		if got := group.Member(near(p, -n)); got != want {
			t.Errorf("Member(p - %d) = %v", n, got)
		}
	}
}

// P5.2: products with known values.
func TestMul(t *testing.T) {
	for name, c := range map[string]struct{ a, b, want api.U256 }{
		"0 * 0":             {zero, zero, zero},
		"0 * x":             {zero, x, zero},
		"1 * x":             {one, x, x},
		"x * 1":             {x, one, x},
		"2 * 3":             {two, api.U256{3}, api.U256{6}},
		"x * y":             {x, y, api.U256{0xaf0f15f029d196b7, 0x7ee4a6bdc940f18a, 0xae48ffc9024346bc, 0x41d1a26b3a124dfc}},
		"1 * (p - 1)":       {one, near(p, -1), near(p, -1)},
		"1 * p":             {one, p, zero},
		"1 * (p + 1)":       {one, near(p, 1), one},
		"1 * (2^256 - 1)":   {one, most, api.U256{36112}},
		"p * p":             {p, p, zero},
		"0 * p":             {zero, p, zero},
		"p * (2^256 - 1)":   {p, most, zero},
		"(p + 1)^2":         {near(p, 1), near(p, 1), one},
		"(p - 1)^2":         {near(p, -1), near(p, -1), one},
		"(p - 1) * (p + 1)": {near(p, -1), near(p, 1), near(p, -1)},
		"2 * q":             {two, q, near(p, -1)},
		"2 * (q + 1)":       {two, near(q, 1), one},
		"2 * 2^255":         {two, api.U256{3: 1 << 63}, api.U256{36113}},
		"2^128 * 2^128":     {api.U256{2: 1}, api.U256{2: 1}, api.U256{36113}},
		"(2^256 - 1)^2":     {most, most, api.U256{1304076544}},
	} {
		if got := group.Mul(c.a, c.b); got != c.want {
			t.Errorf("%s = %x, want %x", name, got, c.want)
		}
	}
}

// checkMul compares a product with that of package big.
func checkMul(t *testing.T, a, b api.U256) {
	t.Helper()
	want := modulo(new(big.Int).Mul(number(a), number(b)), prime)
	if got := group.Mul(a, b); got != want {
		t.Errorf("Mul(%x, %x) = %x, want %x", a, b, got, want)
	}
}

// P5.2: products of all edges.
func TestMulEdges(t *testing.T) {
	for _, a := range edges() {
		for _, b := range edges() {
			checkMul(t, a, b)
		}
	}
	l := randoms(1000, 2)
	for i, a := range l {
		checkMul(t, a, l[(i+1)%len(l)])
	}
}

// P5.2: products h * 2^256 + l for which h * 36113 + l lies so close below a multiple of 2^256 that the next such sum is 2^256 or more.
func TestMulCarries(t *testing.T) {
	gap := big.NewInt(36113)
	fold := func(n *big.Int) *big.Int {
		high, low := new(big.Int).DivMod(n, full, new(big.Int))
		return high.Mul(high, gap).Add(high, low)
	}
	for _, k := range []int64{1, 2, 3, 1000, 36110, 36111} {
		// With 2^256 - 1 as the other factor the first sum is 2^256 + 36112 * a - 36113: the greatest below (k + 1) * 2^256.
		n := new(big.Int).Mul(full, big.NewInt(k))
		n.Add(n, big.NewInt(36112)).Div(n, big.NewInt(36112))
		a := words(n)
		second := fold(fold(new(big.Int).Mul(number(a), number(most))))
		if second.Cmp(full) < 0 {
			t.Fatalf("%x is no such number", a)
		}
		checkMul(t, a, most)
		checkMul(t, most, a)
	}
}

// P5.2: powers with known values.
func TestExp(t *testing.T) {
	minus := near(p, -1)
	fifth := modulo(new(big.Int).ModInverse(big.NewInt(5), prime), prime)
	for name, c := range map[string]struct{ a, e, want api.U256 }{
		"0^0":                 {zero, zero, one},
		"0^1":                 {zero, one, zero},
		"0^q":                 {zero, q, zero},
		"0^(p - 1)":           {zero, minus, zero},
		"0^(2^256 - 1)":       {zero, most, zero},
		"1^0":                 {one, zero, one},
		"1^(2^256 - 1)":       {one, most, one},
		"5^0":                 {api.U256{5}, zero, one},
		"5^1":                 {api.U256{5}, one, api.U256{5}},
		"5^2":                 {api.U256{5}, two, api.U256{25}},
		"2^255":               {two, api.U256{255}, api.U256{3: 1 << 63}},
		"2^256":               {two, api.U256{256}, api.U256{36113}},
		"4^(q - 1)":           {four, near(q, -1), api.U256{0xffffffffffffdcbc, math.MaxUint64, math.MaxUint64, math.MaxUint64 >> 2}},
		"4^q":                 {four, q, one},
		"4^(q + 1)":           {four, near(q, 1), four},
		"4^(p - 2)":           {four, near(p, -2), api.U256{0xffffffffffffdcbc, math.MaxUint64, math.MaxUint64, math.MaxUint64 >> 2}},
		"4^(p - 1)":           {four, minus, one},
		"5^(q - 1)":           {api.U256{5}, near(q, -1), negative(fifth)},
		"5^q":                 {api.U256{5}, q, minus},
		"5^(q + 1)":           {api.U256{5}, near(q, 1), near(p, -5)},
		"5^(p - 2)":           {api.U256{5}, near(p, -2), fifth},
		"5^(p - 1)":           {api.U256{5}, minus, one},
		"5^p":                 {api.U256{5}, p, api.U256{5}},
		"(p - 1)^q":           {minus, q, minus},
		"(p - 1)^(p - 1)":     {minus, minus, one},
		"p^0":                 {p, zero, one},
		"p^1":                 {p, one, zero},
		"p^(2^256 - 1)":       {p, most, zero},
		"(p + 1)^1":           {near(p, 1), one, one},
		"(p + 2)^255":         {near(p, 2), api.U256{255}, api.U256{3: 1 << 63}},
		"(2^256 - 1)^0":       {most, zero, one},
		"(2^256 - 1)^1":       {most, one, api.U256{36112}},
		"the greatest, twice": {most, most, api.U256{0xf1d19ef0b3ace7aa, 0xd2bfde6cfc075d97, 0x71c592bf9b907fd0, 0x24cdcd009e0b2979}},
		"x^y":                 {x, y, api.U256{0x971c84036910f377, 0x236d2feab15adf72, 0xb15a68777d198700, 0xe0d51f1eea8c2b13}},
	} {
		if got := group.Exp(c.a, c.e); got != c.want {
			t.Errorf("%s = %x, want %x", name, got, c.want)
		}
	}
}

// checkExp compares a power with that of package big.
func checkExp(t *testing.T, a, e api.U256) {
	t.Helper()
	want := words(new(big.Int).Exp(number(a), number(e), prime))
	if got := group.Exp(a, e); got != want {
		t.Errorf("Exp(%x, %x) = %x, want %x", a, e, got, want)
	}
}

// P5.2: powers of all edges, and every bit of an exponent by itself.
func TestExpEdges(t *testing.T) {
	for _, a := range edges() {
		for _, e := range exponents() {
			checkExp(t, a, e)
		}
	}
	for i := range uint(256) {
		power := new(big.Int).Lsh(big.NewInt(1), i)
		checkExp(t, y, words(power))
		checkExp(t, y, words(power.Sub(power, big.NewInt(1))))
	}
	l := randoms(200, 3)
	for i, a := range l {
		checkExp(t, a, l[(i+1)%len(l)])
	}
}

// P5.2: a to the power p - 2, which is the inverse of all but the multiples of p.
func TestInverse(t *testing.T) {
	for name, c := range map[string]struct{ a, want api.U256 }{
		"0":         {zero, zero},
		"1":         {one, one},
		"2":         {two, near(q, 1)},
		"4":         {four, api.U256{0xffffffffffffdcbc, math.MaxUint64, math.MaxUint64, math.MaxUint64 >> 2}},
		"p - 1":     {near(p, -1), near(p, -1)},
		"p":         {p, zero},
		"p + 1":     {near(p, 1), one},
		"p + 2":     {near(p, 2), near(q, 1)},
		"2^256 - 1": {most, api.U256{0x2778cc2a31ad9c91, 0x573947923466fd64, 0xb72e640a6f621ccf, 0xe642778cc2a31ae1}},
		"x":         {x, api.U256{0x99da92a8a413adb1, 0x74a86f4c2bc84ffc, 0x5af4ba754ab9f5e5, 0x37d6d426619ba2a0}},
	} {
		if got := group.Inverse(c.a); got != c.want {
			t.Errorf("Inverse(%s) = %x, want %x", name, got, c.want)
		}
	}
	for _, a := range append(edges(), randoms(50, 4)...) {
		want := words(new(big.Int).Exp(number(a), new(big.Int).Sub(prime, big.NewInt(2)), prime))
		if got := group.Inverse(a); got != want {
			t.Errorf("Inverse(%x) = %x, want %x", a, got, want)
		}
	}
}

// P5.2: powers of 4.
func TestPower(t *testing.T) {
	quarter := api.U256{0xffffffffffffdcbc, math.MaxUint64, math.MaxUint64, math.MaxUint64 >> 2}
	for name, c := range map[string]struct{ e, want api.U256 }{
		"0":         {zero, one},
		"1":         {one, four},
		"2":         {two, api.U256{16}},
		"127":       {api.U256{127}, api.U256{3: 1 << 62}},
		"128":       {api.U256{128}, api.U256{36113}},
		"q - 1":     {near(q, -1), quarter},
		"q":         {q, one},
		"q + 1":     {near(q, 1), four},
		"p - 2":     {near(p, -2), quarter},
		"p - 1":     {near(p, -1), one},
		"p":         {p, four},
		"p + 1":     {near(p, 1), api.U256{16}},
		"2^256 - 1": {most, api.U256{0x40d77a775ff8ef89, 0x2d0035d3ba79d89b, 0xca20a514568b095a, 0xf75ad09d0c5892dd}},
		"x":         {x, api.U256{0x5659e47528e967b3, 0xa0b311528bca7ed3, 0xf4f78e75dabc6f1c, 0x86e955f695ffeba7}},
	} {
		if got := group.Power(c.e); got != c.want {
			t.Errorf("Power(%s) = %x, want %x", name, got, c.want)
		}
	}
	for _, e := range append(exponents(), randoms(50, 5)...) {
		want := words(new(big.Int).Exp(big.NewInt(4), number(e), prime))
		if got := group.Power(e); got != want {
			t.Errorf("Power(%x) = %x, want %x", e, got, want)
		}
	}
}

// digest returns the big-endian form of a.
func digest(a api.U256) api.Hash {
	var h api.Hash
	number(a).FillBytes(h[:])
	return h
}

// P5.3: digests as scalars.
func TestScalar(t *testing.T) {
	var ones, counted api.Hash
	for i := range ones {
		ones[i], counted[i] = 255, byte(i+1)
	}
	for name, c := range map[string]struct {
		h    api.Hash
		want api.U256
	}{
		"zeros":            {api.Hash{}, zero},
		"1":                {api.Hash{31: 1}, one},
		"256":              {api.Hash{30: 1}, api.U256{256}},
		"bytes in a row":   {counted, api.U256{0x191a1b1c1d1e1f20, 0x1112131415161718, 0x090a0b0c0d0e0f10, 0x0102030405060708}},
		"2^255":            {api.Hash{0: 128}, api.U256{18057}},
		"q - 1":            {digest(near(q, -1)), near(q, -1)},
		"q":                {digest(q), zero},
		"q + 1":            {digest(near(q, 1)), one},
		"2q - 1":           {digest(near(p, -2)), near(q, -1)},
		"2q":               {digest(near(p, -1)), zero},
		"p":                {digest(p), one},
		"2q + 2":           {digest(near(p, 1)), two},
		"32 bytes of 255":  {ones, api.U256{36113}},
		"a digest below q": {digest(x), x},
		"a digest above q": {digest(y), api.U256{0x9b37d0b11148f783, 0xc2682390412a8cf7, 0x8cff4b8e7875d600, 0x21fce4363854ff88}},
	} {
		if got := group.Scalar(c.h); got != c.want {
			t.Errorf("Scalar of %s = %x, want %x", name, got, c.want)
		}
	}
	for _, a := range append(edges(), randoms(200, 6)...) {
		if got, want := group.Scalar(digest(a)), modulo(number(a), order); got != want {
			t.Errorf("Scalar(%x) = %x, want %x", digest(a), got, want)
		}
	}
}

// P5.3: sums, products and negatives with known values.
func TestScalars(t *testing.T) {
	last := near(q, -1)
	for name, c := range map[string]struct{ got, want api.U256 }{
		"0 + 0":                   {group.AddScalar(zero, zero), zero},
		"0 + 1":                   {group.AddScalar(zero, one), one},
		"0 + (q - 1)":             {group.AddScalar(zero, last), last},
		"1 + (q - 1)":             {group.AddScalar(one, last), zero},
		"(q - 1) + 2":             {group.AddScalar(last, two), one},
		"(q - 1) + (q - 1)":       {group.AddScalar(last, last), near(q, -2)},
		"0 + q":                   {group.AddScalar(zero, q), zero},
		"q + q":                   {group.AddScalar(q, q), zero},
		"(q + 1) + (q + 1)":       {group.AddScalar(near(q, 1), near(q, 1)), two},
		"0 + (2^256 - 1)":         {group.AddScalar(zero, most), api.U256{36113}},
		"(2^256 - 1) + 1":         {group.AddScalar(most, one), api.U256{36114}},
		"(2^256 - 1) + q":         {group.AddScalar(most, q), api.U256{36113}},
		"(2^256 - 1), twice":      {group.AddScalar(most, most), api.U256{72226}},
		"x + y":                   {group.AddScalar(x, y), api.U256{0x9d5d57c8a3634004, 0x8abb3341d16751d2, 0x8e61c838742208f6, 0x4f6dfa78ef7bafcc}},
		"0 * (q - 1)":             {group.MulScalar(zero, last), zero},
		"1 * (q - 1)":             {group.MulScalar(one, last), last},
		"2 * (q - 1)":             {group.MulScalar(two, last), near(q, -2)},
		"(q - 1)^2":               {group.MulScalar(last, last), one},
		"1 * q":                   {group.MulScalar(one, q), zero},
		"(q - 1) * (q + 1)":       {group.MulScalar(last, near(q, 1)), last},
		"(q + 1)^2":               {group.MulScalar(near(q, 1), near(q, 1)), one},
		"q * (2^256 - 1)":         {group.MulScalar(q, most), zero},
		"1 * (2^256 - 1)":         {group.MulScalar(one, most), api.U256{36113}},
		"(q - 1) * (2^256 - 1)":   {group.MulScalar(last, most), near(q, -36113)},
		"(2^256 - 1)^2":           {group.MulScalar(most, most), api.U256{1304148769}},
		"2^128 * 2^128":           {group.MulScalar(api.U256{2: 1}, api.U256{2: 1}), api.U256{36114}},
		"x * y":                   {group.MulScalar(x, y), api.U256{0xf23a23a4641d17a4, 0x6bea42370e437bfd, 0xd57b0d1343aacb17, 0x5e92a53f709bdd73}},
		"-0":                      {group.NegScalar(zero), zero},
		"-1":                      {group.NegScalar(one), last},
		"-(q - 1)":                {group.NegScalar(last), one},
		"-q":                      {group.NegScalar(q), zero},
		"-(q + 1)":                {group.NegScalar(near(q, 1)), last},
		"-2q":                     {group.NegScalar(near(p, -1)), zero},
		"-(2^256 - 1)":            {group.NegScalar(most), near(q, -36113)},
		"-x":                      {group.NegScalar(x), api.U256{0xfdda78e86de570f6, 0x37acf04e6fc33b24, 0xfe9d83560453cd0a, 0x528ee9bd48d94fbb}},
		"-y":                      {group.NegScalar(y), api.U256{0x64c82f4eeeb6c1f4, 0x3d97dc6fbed57308, 0x7300b471878a29ff, 0x5e031bc9c7ab0077}},
		"the scalar -1, from 255": {group.NegScalar(group.Scalar(api.Hash{31: 255})), near(q, -255)},
	} {
		if c.got != c.want {
			t.Errorf("%s: %x, want %x", name, c.got, c.want)
		}
	}
}

// checkScalars compares a sum, a product and a negative with those of package big.
func checkScalars(t *testing.T, a, b api.U256) {
	t.Helper()
	if got, want := group.AddScalar(a, b), modulo(new(big.Int).Add(number(a), number(b)), order); got != want {
		t.Errorf("AddScalar(%x, %x) = %x, want %x", a, b, got, want)
	}
	if got, want := group.MulScalar(a, b), modulo(new(big.Int).Mul(number(a), number(b)), order); got != want {
		t.Errorf("MulScalar(%x, %x) = %x, want %x", a, b, got, want)
	}
	if got, want := group.NegScalar(a), modulo(new(big.Int).Neg(number(a)), order); got != want {
		t.Errorf("NegScalar(%x) = %x, want %x", a, got, want)
	}
}

// P5.3: sums, products and negatives of all edges.
func TestScalarEdges(t *testing.T) {
	for _, a := range edges() {
		for _, b := range edges() {
			checkScalars(t, a, b)
		}
	}
	l := randoms(300, 7)
	for i, a := range l {
		checkScalars(t, a, l[(i+1)%len(l)])
	}
}

// checkConsequences checks what the chapter concludes, for two numbers.
func checkConsequences(t *testing.T, a, b api.U256) {
	t.Helper()
	if group.Member(a) && group.Member(b) {
		for name, c := range map[string]api.U256{"product": group.Mul(a, b), "power": group.Exp(a, b), "inverse": group.Inverse(a)} {
			if !group.Member(c) {
				t.Errorf("the %s of %x, %x is no member: %x", name, a, b, c)
			}
		}
	}
	if group.Mul(group.Power(a), group.Power(b)) != group.Power(group.AddScalar(a, b)) {
		t.Errorf("Power(%x) * Power(%x) is not the power of the sum", a, b)
	}
	if group.Exp(group.Power(a), b) != group.Power(group.MulScalar(a, b)) {
		t.Errorf("Power(%x) to the power %x is not the power of the product", a, b)
	}
	if !group.Member(group.Power(a)) {
		t.Errorf("Power(%x) is no member", a)
	}
	if group.AddScalar(a, group.NegScalar(a)) != zero {
		t.Errorf("%x and its negative do not give 0", a)
	}
	want := one
	if a == zero || a == p {
		want = zero
	}
	if got := group.Mul(group.Inverse(a), a); got != want {
		t.Errorf("Inverse(%x) * it = %x", a, got)
	}
}

// Consequences of the chapter, for edges, squares and others.
func TestConsequences(t *testing.T) {
	var l []api.U256
	for _, a := range append(edges(), randoms(30, 8)...) {
		l = append(l, a, square(a))
	}
	for i, a := range l {
		checkConsequences(t, a, l[(i+1)%len(l)])
		checkConsequences(t, a, l[(i+29)%len(l)])
		checkConsequences(t, a, l[(i*7)%len(l)])
	}
}

// The examples of the chapter.
func TestExamples(t *testing.T) {
	if !group.Member(four) || group.Member(zero) || group.Member(group.Modulus()) || group.Member(near(group.Modulus(), -1)) {
		t.Error("Member(4), Member(0), Member(p), Member(p - 1): want true, false, false, false")
	}
	if got := group.Power(zero); got != one {
		t.Errorf("Power(0) = %x", got)
	}
	if got := group.Power(group.Order()); got != one {
		t.Errorf("Power(q) = %x", got)
	}
	if got := group.NegScalar(zero); got != zero {
		t.Errorf("NegScalar(0) = %x", got)
	}
}

// FuzzGroup looks for numbers for which a result is not that of package big, or a function panics (P1).
func FuzzGroup(f *testing.F) {
	for _, a := range []api.U256{zero, four, p, q, most, x} {
		f.Add(number(a).Bytes(), number(y).Bytes())
		f.Add(number(a).Bytes(), number(most).Bytes())
	}
	f.Fuzz(func(t *testing.T, r, s []byte) {
		a, b := words(new(big.Int).SetBytes(r)), words(new(big.Int).SetBytes(s))
		checkMul(t, a, b)
		checkExp(t, a, b)
		checkScalars(t, a, b)
		checkConsequences(t, a, b)
		if got, want := group.Scalar(digest(a)), modulo(number(a), order); got != want {
			t.Errorf("Scalar(%x) = %x, want %x", digest(a), got, want)
		}
		member := number(a).Cmp(prime) < 0 && big.Jacobi(number(a), prime) == 1
		if got := group.Member(a); got != member {
			t.Errorf("Member(%x) = %v", a, got)
		}
	})
}

func BenchmarkExp(b *testing.B) {
	for b.Loop() {
		group.Exp(x, y)
	}
}
