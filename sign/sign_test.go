package sign_test

import (
	"bytes"
	"crypto/sha256"
	"math"
	"math/big"
	"math/rand/v2"
	"testing"

	"lightclient/api"
	"lightclient/sign"
)

// p and q are written out, so that the results of package group are not their own measure.
var (
	zero = api.U256{}
	one  = api.U256{1}
	two  = api.U256{2}
	four = api.U256{4}
	p    = api.U256{0xffffffffffff72ef, math.MaxUint64, math.MaxUint64, math.MaxUint64}
	q    = api.U256{0xffffffffffffb977, math.MaxUint64, math.MaxUint64, math.MaxUint64 >> 1}
	most = api.U256{math.MaxUint64, math.MaxUint64, math.MaxUint64, math.MaxUint64}

	full  = new(big.Int).Lsh(big.NewInt(1), 256) // 2^256
	prime = new(big.Int).Sub(full, big.NewInt(36113))
	order = new(big.Int).Rsh(prime, 1)
)

// x is the digest of "x", a secret; key is its public key; y is the digest of "y", which is neither a secret nor a square modulo p.
var (
	x   = parse("2d711642b726b04401627ca9fbac32f5c8530fb1903cc4db02258717921a4881")
	key = parse("86e955f695ffeba7f4f78e75dabc6f1ca0b311528bca7ed35659e47528e967b3")
	y   = parse("a1fce4363854ff888cff4b8e7875d600c2682390412a8cf79b37d0b11148b0fa")
)

// Messages and tweaks: the numbers of the last two are above q.
var (
	zeros   = api.Hash{}
	counted = digest(parse("0102030405060708090a0b0c0d0e0f101112131415161718191a1b1c1d1e1f20"))
	abc     = api.Hash(sha256.Sum256([]byte("abc")))
	ones    = digest(most)
)

// number returns a as package big has it.
func number(a api.U256) *big.Int {
	n := new(big.Int)
	for i := 3; i >= 0; i-- {
		n.Lsh(n, 64)
		n.Or(n, new(big.Int).SetUint64(a[i]))
	}
	return n
}

// words returns n modulo 2^256.
func words(n *big.Int) api.U256 {
	rest := new(big.Int).Mod(n, full)
	var a api.U256
	for i := range a {
		a[i] = new(big.Int).And(rest, new(big.Int).SetUint64(math.MaxUint64)).Uint64()
		rest.Rsh(rest, 64)
	}
	return a
}

// parse returns the number of 64 digits of base 16.
func parse(s string) api.U256 {
	n, ok := new(big.Int).SetString(s, 16)
	if !ok || len(s) != 64 {
		panic(s)
	}
	return words(n)
}

// near returns a + n modulo 2^256.
func near(a api.U256, n int64) api.U256 {
	return words(new(big.Int).Add(number(a), big.NewInt(n)))
}

// modulo returns n modulo m, from 0 on.
func modulo(n, m *big.Int) api.U256 { return words(new(big.Int).Mod(n, m)) }

// plus returns a + b modulo q.
func plus(a, b api.U256) api.U256 { return modulo(new(big.Int).Add(number(a), number(b)), order) }

// minus returns -a modulo m.
func minus(a api.U256, m *big.Int) api.U256 { return modulo(new(big.Int).Neg(number(a)), m) }

// digest returns the big-endian form of a.
func digest(a api.U256) api.Hash {
	var h api.Hash
	number(a).FillBytes(h[:])
	return h
}

// power returns a to the power e modulo p.
func power(a, e api.U256) api.U256 { return words(new(big.Int).Exp(number(a), number(e), prime)) }

// times returns a * b modulo p.
func times(a, b api.U256) api.U256 { return modulo(new(big.Int).Mul(number(a), number(b)), prime) }

// secret reports whether a is from 1 to q - 1.
func secret(a api.U256) bool { return a != zero && number(a).Cmp(order) < 0 }

// valid reports whether a is below p, a square other than 0, and not 1.
func valid(a api.U256) bool {
	return a != one && number(a).Cmp(prime) < 0 && big.Jacobi(number(a), prime) == 1
}

// tagged returns the number of a tagged digest of the parts, modulo q.
func tagged(tag string, parts ...api.Hash) api.U256 {
	t := sha256.Sum256([]byte(tag))
	d := sha256.New()
	d.Write(t[:])
	d.Write(t[:])
	for _, part := range parts {
		d.Write(part[:])
	}
	return modulo(new(big.Int).SetBytes(d.Sum(nil)), order)
}

// nonce is what P6.2 says, but for a digest whose number is a multiple of q: none is known.
func nonce(a api.U256, m api.Hash) api.U256 { return tagged("lightclient/nonce", digest(a), m) }

// challenge is what P6.2 says.
func challenge(r, k api.U256, m api.Hash) api.U256 {
	return tagged("lightclient/challenge", digest(r), digest(k), m)
}

// signed is what P6.3 says, with any nonce, for any key that may have the number a as its secret.
func signed(a, k, nonce api.U256, m api.Hash) api.Signature {
	e := challenge(power(four, nonce), k, m)
	s := new(big.Int).Mul(number(e), number(a))
	return api.Signature{E: e, S: modulo(s.Add(s, number(nonce)), order)}
}

// equation is the last condition of P6.4 alone.
func equation(k api.U256, m api.Hash, s api.Signature) bool {
	back := words(new(big.Int).Sub(order, number(s.E)))
	return s.E == challenge(times(power(four, s.S), power(k, back)), k, m)
}

// edges are the numbers at which a word, the secrets and the keys begin or end.
func edges() []api.U256 {
	return []api.U256{
		zero, one, two, {3}, four, {5}, {36113}, {math.MaxUint64}, {0, 1}, {0, 0, 1}, {0, 0, 0, 1},
		near(q, -2), near(q, -1), q, near(q, 1), near(q, 2), {3: 1 << 63},
		near(p, -5), near(p, -4), near(p, -2), near(p, -1), p, near(p, 1), near(p, 4),
		near(most, -1), most, x, key, y,
	}
}

// secrets are the first and the last ones and some between them.
func secrets() []api.U256 {
	return []api.U256{one, two, {3}, {math.MaxUint64}, {0, 1}, x, near(q, -2), near(q, -1)}
}

// randoms returns count numbers of all lengths, the same ones for the same seed.
func randoms(count int, seed uint64) []api.U256 {
	r := rand.New(rand.NewPCG(seed, 6))
	var l []api.U256
	for range count {
		n := number(api.U256{r.Uint64(), r.Uint64(), r.Uint64(), r.Uint64()})
		l = append(l, words(n.Rsh(n, uint(r.IntN(256)))))
	}
	return l
}

// flipped returns a with another bit i.
func flipped(a api.U256, i int) api.U256 {
	a[i/64] ^= 1 << (i % 64)
	return a
}

// P6.1: the public keys of the first and the last secrets, and what is no secret.
func TestPublic(t *testing.T) {
	for name, c := range map[string]struct {
		x, want api.U256
		e       api.Errno
	}{
		"0":             {zero, zero, api.ErrKey},
		"1":             {one, four, api.OK},
		"2":             {two, api.U256{16}, api.OK},
		"127":           {api.U256{127}, api.U256{3: 1 << 62}, api.OK},
		"128":           {api.U256{128}, api.U256{36113}, api.OK},
		"x":             {x, key, api.OK},
		"q - 1":         {near(q, -1), parse("3fffffffffffffffffffffffffffffffffffffffffffffffffffffffffffdcbc"), api.OK},
		"q":             {q, zero, api.ErrKey},
		"q + 1":         {near(q, 1), zero, api.ErrKey},
		"2^255":         {api.U256{3: 1 << 63}, zero, api.ErrKey},
		"q + x":         {words(new(big.Int).Add(order, number(x))), zero, api.ErrKey},
		"2q":            {near(p, -1), zero, api.ErrKey},
		"2q + 1":        {p, zero, api.ErrKey},
		"y":             {y, zero, api.ErrKey},
		"2^256 - 1":     {most, zero, api.ErrKey},
		"2^255 + 2^192": {api.U256{3: 1<<63 + 1}, zero, api.ErrKey},
	} {
		if got, e := sign.Public(c.x); got != c.want || e != c.e {
			t.Errorf("Public(%s) = %x, %d, want %x, %d", name, got, e, c.want, c.e)
		}
	}
}

// checkPublic compares a public key with the power that package big finds.
func checkPublic(t *testing.T, a api.U256) {
	t.Helper()
	want, code := zero, api.ErrKey
	if secret(a) {
		want, code = power(four, a), api.OK
	}
	if got, e := sign.Public(a); got != want || e != code {
		t.Errorf("Public(%x) = %x, %d, want %x, %d", a, got, e, want, code)
	}
}

// P6.1: public keys of numbers of all lengths.
func TestPublicOfAll(t *testing.T) {
	for _, a := range append(edges(), randoms(200, 1)...) {
		checkPublic(t, a)
	}
}

// P6.1: public keys and others.
func TestValid(t *testing.T) {
	for name, c := range map[string]struct {
		p    api.U256
		want bool
	}{
		"0":               {zero, false},
		"1":               {one, false},
		"2":               {two, true},
		"3":               {api.U256{3}, true},
		"4":               {four, true},
		"5, no square":    {api.U256{5}, false},
		"7, no square":    {api.U256{7}, false},
		"16":              {api.U256{16}, true},
		"the key of x":    {key, true},
		"its negative":    {minus(key, prime), false},
		"x":               {x, true},
		"y, no square":    {y, false},
		"1, a word up":    {api.U256{0, 1}, true},
		"p - 5":           {near(p, -5), true},
		"p - 4":           {near(p, -4), false},
		"p - 1":           {near(p, -1), false},
		"p":               {p, false},
		"p + 1":           {near(p, 1), false},
		"p + 4":           {near(p, 4), false},
		"2^256 - 1":       {most, false},
		"1/4":             {parse("3fffffffffffffffffffffffffffffffffffffffffffffffffffffffffffdcbc"), true},
		"q, that is -1/2": {q, false},
	} {
		if got := sign.Valid(c.p); got != c.want {
			t.Errorf("Valid(%s) = %v", name, got)
		}
	}
	for _, a := range append(edges(), randoms(200, 2)...) {
		if got := sign.Valid(a); got != valid(a) {
			t.Errorf("Valid(%x) = %v", a, got)
		}
	}
	for _, a := range secrets() {
		if !sign.Valid(power(four, a)) {
			t.Errorf("the public key of %x is not valid", a)
		}
	}
}

// P6.2: nonces from another implementation; the first argument need not be a secret.
func TestNonce(t *testing.T) {
	for name, c := range map[string]struct {
		x    api.U256
		m    api.Hash
		want string
	}{
		"0, zeros":           {zero, zeros, "7e46a35e7be37cc08ea1f7ef572e03081212a0b73b3b1955182452f3b06d22e2"},
		"1, zeros":           {one, zeros, "488ad786a1acffe7da0e3467ab99d21087f3bc12b77bdacbf030e43f5bc49e57"},
		"1, counted":         {one, counted, "49cf8fe63b73d71f10ae1280f88b0d04619c4a43eadfd64bf262d1b292118899"},
		"1, full":            {one, ones, "1895302f2bba2b812e3049d10cd23aaf0bfb8894183214cdb7abb4a3925d5306"},
		"x, abc":             {x, abc, "5ef45825db9958f32b2222ad399ed41448fd80e1320f0098ca36e55ef53e4d45"},
		"q - 1, abc":         {near(q, -1), abc, "6ee5bad2a3e18c7f5369d1524a356a17789c248d191f842a989d536d03e721e6"},
		"q, abc":             {q, abc, "465b1f94b43398b6dafeeb1077e6e1e67fcf290f71ee2f982d1526cc7112124b"},
		"q + 1, counted":     {near(q, 1), counted, "306e92eb09bc3534ecc9450c7aa964969b8a6b47a9a7ee54719700258dcac24c"},
		"p, zeros":           {p, zeros, "503f55bfc8a51b3649b9284b4768a8ae887ebcd8f108be6da5bff20c9414b966"},
		"2^256 - 1, counted": {most, counted, "10eb94acb54da8b8770dbaa59e7dae3a236f453e9c35342c8d6713f84781de10"},
		"2^256 - 1, full":    {most, ones, "67178c0df8f09778ad14030e43240cdbebca1e24a376a1a3aca1b07a864faaaf"},
	} {
		if got := sign.Nonce(c.x, c.m); got != parse(c.want) {
			t.Errorf("Nonce(%s) = %x, want %s", name, got, c.want)
		}
	}
}

// P6.2: challenges from another implementation; the first two arguments need not be members.
func TestChallenge(t *testing.T) {
	for name, c := range map[string]struct {
		r, p api.U256
		m    api.Hash
		want string
	}{
		"0, 0, zeros":                   {zero, zero, zeros, "26b2b9d20b7303a2e65142337765824b0a9662191ee504f2470d27815d474860"},
		"1, 4, full":                    {one, four, ones, "60a8fbaa6bbe6769284d402d673589f3b5f97ec80ea0c77d12cb4b80a293f0f7"},
		"1, x, zeros":                   {one, x, zeros, "2b23330d802f3814e3c627b1d6bb1773306ae18da33fe750bf513ecdc13b10e1"},
		"x, x, counted":                 {x, x, counted, "719066fcbb442a90b9cfb8d2301a5fa69a2c23c921313b4c2dba759de32b67d2"},
		"x, 4, counted":                 {x, four, counted, "2218f64fa1edf750babc0bbf717239f4f2cb2136547e8041d9ab530832cf2ea8"},
		"q, x, full":                    {q, x, ones, "3651d0331537d4a2d4f9dc9e290a97ffe01d709d038f7221e23d3752f5fcffe2"},
		"p, 0, zeros":                   {p, zero, zeros, "50d7f4711220093cedc6ac1a16b13d3346ada50113abae5059c3d4fe44196dc5"},
		"p, 2^256 - 1, counted":         {p, most, counted, "2f6f345695dad057c8aeb7362511e62f4a3bae90d00b0054fc58c4a1d84fe3a6"},
		"2^256 - 1, 0, full":            {most, zero, ones, "00088e6ff20e06ff717111fc72e4783cacbdaf3bf862c3d7d8edd53ab2eb5e68"},
		"2^256 - 1, 2^256 - 1, counted": {most, most, counted, "186d31e378fcdacfa5b9f8d21ed601c35bbea42f8a88a1c16313e53faaa6052b"},
	} {
		if got := sign.Challenge(c.r, c.p, c.m); got != parse(c.want) {
			t.Errorf("Challenge(%s) = %x, want %s", name, got, c.want)
		}
	}
}

// P6.2: every bit of the arguments counts, and stands in its place.
func TestDigestsOfAllBits(t *testing.T) {
	checkNonce := func(a, m api.U256) {
		t.Helper()
		if got, want := sign.Nonce(a, digest(m)), nonce(a, digest(m)); got != want {
			t.Errorf("Nonce(%x, %x) = %x, want %x", a, m, got, want)
		}
	}
	checkChallenge := func(r, k, m api.U256) {
		t.Helper()
		if got, want := sign.Challenge(r, k, digest(m)), challenge(r, k, digest(m)); got != want {
			t.Errorf("Challenge(%x, %x, %x) = %x, want %x", r, k, m, got, want)
		}
	}
	for i := range 256 {
		checkNonce(flipped(x, i), y)
		checkNonce(x, flipped(y, i))
		checkChallenge(flipped(x, i), key, y)
		checkChallenge(x, flipped(key, i), y)
		checkChallenge(x, key, flipped(y, i))
	}
	for _, a := range edges() {
		for _, b := range edges() {
			checkNonce(a, b)
			checkChallenge(a, b, a)
		}
	}
}

// P6.3: signatures from another implementation.
func TestSign(t *testing.T) {
	for name, c := range map[string]struct {
		x    api.U256
		m    api.Hash
		e, s string
	}{
		"1, zeros":       {one, zeros, "0a83c354ca3d380bcf769c25b607b237ba7410b22ca5af7eb7ad7accb5a42e13", "530e9adb6bea37f3a984d08d61a184484267ccc4e4218a4aa7de5f0c1168cc6a"},
		"1, abc":         {one, abc, "4d492dcec47bd43cbfa0f6d7647dfcd512414eab1827635ea45b3f88e7baa4e9", "7f35d6b1557fc5f32353f79e829217f757c4c2843ee966b813554f60410786f4"},
		"2, counted":     {two, counted, "156bf1a1ead8d947530107040e823f595830a65d69da213171b989c4d242c704", "639dc8b4b7bdaeb2ada9484240b78283a69538f305536b08df8583daa274f216"},
		"x, zeros":       {x, zeros, "6bf19a532b7bbd710976ea68862d81dffd92619c996c07ad3916043d7bbf9adb", "390cca044cbcd3d5516cfc94a3f6149a23d28330fc8bb6c8a308526f4a7ce212"},
		"x, abc":         {x, abc, "5c5e48ae4657af8c462aac332589cdc4fdb663a098fc9cef359fe58ebbd048b7", "41089aeffb1c1c8e0180681ad992f554499952c995ba7d39496e907cffaf9861"},
		"x, full":        {x, ones, "2b309317397026066935b23fcefda539b0372ef7887b2c7f89fdb366cfe6fb17", "0dee13851365903d35231d596b50307e317061e208faf797606ce123237d1d65"},
		"q - 1, counted": {near(q, -1), counted, "5e5c979567cbe3d52d4f6ab5a5cccf4ee0b749b6d940203ec3f2ab9f0c250206", "5e5977d844cd03d10231ecf1e7d1efb6ab4b9da8c4b7804870153fdacbaed15c"},
		"q - 1, full":    {near(q, -1), ones, "6b9a6a6fe6e8cdb3f39d1737333b60f8a8b27c5b6dbce571f15cda7f68af6894", "6ceae68234308d2f6ad75932db1177ee912ea28b9cd1b2b2c2060278503eb06c"},
	} {
		want := api.Signature{E: parse(c.e), S: parse(c.s)}
		if got, e := sign.Sign(c.x, c.m); got != want || e != api.OK {
			t.Errorf("Sign(%s) = %x, %d, want %x", name, got, e, want)
		}
	}
}

// P6.3: what is no secret signs nothing.
func TestSignWithoutSecret(t *testing.T) {
	for name, a := range map[string]api.U256{
		"0": zero, "q": q, "q + 1": near(q, 1), "q + x": words(new(big.Int).Add(order, number(x))),
		"2^255": {3: 1 << 63}, "2q": near(p, -1), "p": p, "p + 1": near(p, 1), "2^256 - 1": most,
	} {
		for _, m := range []api.Hash{zeros, abc, ones} {
			if got, e := sign.Sign(a, m); got != (api.Signature{}) || e != api.ErrKey {
				t.Errorf("Sign(%s, %x) = %x, %d, want ErrKey", name, m, got, e)
			}
		}
	}
}

// checkSign compares a signature with what P6.3 says, and verifies it.
func checkSign(t *testing.T, a api.U256, m api.Hash) {
	t.Helper()
	var want api.Signature
	code := api.ErrKey
	k := power(four, a)
	if secret(a) {
		want, code = signed(a, k, nonce(a, m), m), api.OK
	}
	got, e := sign.Sign(a, m)
	if got != want || e != code {
		t.Errorf("Sign(%x, %x) = %x, %d, want %x, %d", a, m, got, e, want, code)
	}
	if code == api.OK && !sign.Verify(k, m, got) {
		t.Errorf("Sign(%x, %x) = %x is not verified", a, m, got)
	}
}

// P6.3, P6.4 and the Consequences: signatures of all kinds of messages are as they should be, and verified.
func TestSignAll(t *testing.T) {
	for _, a := range edges() {
		for _, m := range edges() {
			checkSign(t, a, digest(m))
		}
	}
	l := randoms(100, 3)
	for i, a := range l {
		checkSign(t, a, digest(l[(i+1)%len(l)]))
	}
}

// P6.4: a signature, and what is none for one reason each.
func TestVerify(t *testing.T) {
	s, _ := sign.Sign(x, abc)
	above := func(a api.U256) api.U256 { return words(new(big.Int).Add(number(a), order)) }
	for name, c := range map[string]struct {
		p    api.U256
		m    api.Hash
		s    api.Signature
		want bool
	}{
		"as it is":                {key, abc, s, true},
		"S + 1":                   {key, abc, api.Signature{E: s.E, S: near(s.S, 1)}, false},
		"E + 1":                   {key, abc, api.Signature{E: near(s.E, 1), S: s.S}, false},
		"S + q":                   {key, abc, api.Signature{E: s.E, S: above(s.S)}, false},
		"E + q":                   {key, abc, api.Signature{E: above(s.E), S: s.S}, false},
		"both + q":                {key, abc, api.Signature{E: above(s.E), S: above(s.S)}, false},
		"-S":                      {key, abc, api.Signature{E: s.E, S: minus(s.S, order)}, false},
		"-E":                      {key, abc, api.Signature{E: minus(s.E, order), S: s.S}, false},
		"E and S changed":         {key, abc, api.Signature{E: s.S, S: s.E}, false},
		"nothing":                 {key, abc, api.Signature{}, false},
		"E = 0":                   {key, abc, api.Signature{S: s.S}, false},
		"S = 0":                   {key, abc, api.Signature{E: s.E}, false},
		"E = q":                   {key, abc, api.Signature{E: q, S: s.S}, false},
		"S = q":                   {key, abc, api.Signature{E: s.E, S: q}, false},
		"E = 2^256 - 1":           {key, abc, api.Signature{E: most, S: s.S}, false},
		"S = 2^256 - 1":           {key, abc, api.Signature{E: s.E, S: most}, false},
		"another message":         {key, ones, s, false},
		"no message":              {key, zeros, s, false},
		"the key 4":               {four, abc, s, false},
		"the next key":            {times(key, four), abc, s, false},
		"the inverse key":         {power(key, near(q, -1)), abc, s, false},
		"the negative of the key": {minus(key, prime), abc, s, false},
		"the secret as key":       {x, abc, s, false},
		"the key 0":               {zero, abc, s, false},
		"the key 1":               {one, abc, s, false},
		"the key p":               {p, abc, s, false},
		"the key 2^256 - 1":       {most, abc, s, false},
	} {
		if got := sign.Verify(c.p, c.m, c.s); got != c.want {
			t.Errorf("Verify of %s = %v", name, got)
		}
	}
}

// P6.4: no bit of a signature, a message or a key may be another one.
func TestVerifySpoilt(t *testing.T) {
	s, _ := sign.Sign(x, abc)
	m := parse("ba7816bf8f01cfea414140de5dae2223b00361a396177a9cb410ff61f20015ad")
	for i := range 256 {
		if sign.Verify(key, abc, api.Signature{E: flipped(s.E, i), S: s.S}) {
			t.Errorf("verified with another bit %d of E", i)
		}
		if sign.Verify(key, abc, api.Signature{E: s.E, S: flipped(s.S, i)}) {
			t.Errorf("verified with another bit %d of S", i)
		}
		if sign.Verify(key, digest(flipped(m, i)), s) {
			t.Errorf("verified with another bit %d of the message", i)
		}
		if sign.Verify(flipped(key, i), abc, s) {
			t.Errorf("verified with another bit %d of the key", i)
		}
	}
}

// P6.4: the nonce need not be that of P6.2, because nobody who verifies can tell.
func TestVerifyOtherNonces(t *testing.T) {
	for _, a := range secrets() {
		k := power(four, a)
		for _, n := range []api.U256{zero, one, two, near(q, -1), x} {
			s := signed(a, k, n, abc)
			if !sign.Verify(k, abc, s) {
				t.Errorf("the signature by %x with the nonce %x is not verified", a, n)
			}
			s.S = words(new(big.Int).Add(number(s.S), order))
			if !equation(k, abc, s) {
				t.Fatalf("S + q does not keep the equation for %x, %x", a, n)
			}
			if sign.Verify(k, abc, s) {
				t.Errorf("verified with S + q, for %x and %x", a, n)
			}
		}
	}
}

// P6.4: signatures that keep the equation are none if the key is not valid.
func TestVerifyInvalidKeys(t *testing.T) {
	for name, c := range map[string]struct{ key, secret api.U256 }{
		"1":             {one, zero},
		"p + 1":         {near(p, 1), zero},
		"p + 4":         {near(p, 4), one},
		"p + 16":        {near(p, 16), two},
		"p - 1":         {near(p, -1), zero},
		"p - 4":         {near(p, -4), one},
		"the key's -":   {minus(key, prime), x},
		"4's inverse's": {minus(power(four, near(q, -1)), prime), near(q, -1)},
	} {
		found := 0
		for n := range uint64(40) {
			s := signed(c.secret, c.key, api.U256{n + 1}, abc)
			if !equation(c.key, abc, s) {
				continue // the power of a negative key is negative for every other challenge
			}
			found++
			if sign.Verify(c.key, abc, s) {
				t.Errorf("Verify with the key %s = true for %x", name, s)
			}
		}
		if found == 0 {
			t.Errorf("%s: no signature keeps the equation", name)
		}
	}
	for name, k := range map[string]api.U256{"0": zero, "p": p} {
		for _, response := range []api.U256{zero, one, x} {
			s := api.Signature{E: challenge(zero, k, abc), S: response}
			if !equation(k, abc, s) {
				t.Fatalf("%x does not keep the equation for the key %s", s, name)
			}
			if sign.Verify(k, abc, s) {
				t.Errorf("Verify with the key %s = true for %x", name, s)
			}
		}
	}
}

// P6.5: E stands before S, each with its highest byte first; they need not be below q.
func TestEncode(t *testing.T) {
	for _, e := range edges() {
		for _, s := range edges() {
			left, right := digest(e), digest(s)
			want := append(left[:], right[:]...)
			if got := sign.Encode(api.Signature{E: e, S: s}); !bytes.Equal(got, want) {
				t.Errorf("Encode(%x, %x) = %x, want %x", e, s, got, want)
			}
		}
	}
	s := api.Signature{E: x, S: y}
	first, second := sign.Encode(s), sign.Encode(s)
	clear(first[:cap(first)])
	if got := sign.Encode(s); !bytes.Equal(second, got) || bytes.Equal(first, got) {
		t.Error("two results of Encode share memory")
	}
}

// P6.5: bytes of other lengths, whatever they contain.
func TestDecodeLengths(t *testing.T) {
	for _, fill := range []byte{0, 1, 127, 255} {
		for _, n := range []int{0, 1, 31, 32, 33, 62, 63, 65, 96, 127, 128, 129, 1000} {
			b := bytes.Repeat([]byte{fill}, n)
			if got, e := sign.Decode(b); got != (api.Signature{}) || e != api.ErrArity {
				t.Errorf("Decode of %d bytes %d = %x, %d, want ErrArity", n, fill, got, e)
			}
		}
	}
	if got, e := sign.Decode(nil); got != (api.Signature{}) || e != api.ErrArity {
		t.Errorf("Decode(nil) = %x, %d, want ErrArity", got, e)
	}
}

// checkDecode compares what is read of 64 bytes with what P6.5 says.
func checkDecode(t *testing.T, e, s api.U256) {
	t.Helper()
	want, code := api.Signature{E: e, S: s}, api.OK
	if number(e).Cmp(order) >= 0 || number(s).Cmp(order) >= 0 {
		want, code = api.Signature{}, api.ErrRange
	}
	left, right := digest(e), digest(s)
	b := append(left[:], right[:]...)
	got, errno := sign.Decode(b)
	if got != want || errno != code {
		t.Errorf("Decode(%x, %x) = %x, %d, want %x, %d", e, s, got, errno, want, code)
	}
	if !bytes.Equal(b, append(digestBytes(e), digestBytes(s)...)) {
		t.Errorf("Decode(%x, %x) has changed its argument", e, s)
	}
	if code == api.OK && !bytes.Equal(sign.Encode(got), b) {
		t.Errorf("Encode(Decode(%x)) = %x", b, sign.Encode(got))
	}
}

// digestBytes returns the big-endian form of a as a slice of its own.
func digestBytes(a api.U256) []byte {
	h := digest(a)
	return h[:]
}

// P6.5 and the Consequences: numbers of q and above, one and both.
func TestDecode(t *testing.T) {
	last := near(q, -1)
	for name, c := range map[string]struct {
		e, s api.U256
		want api.Errno
	}{
		"0, 0":             {zero, zero, api.OK},
		"1, 2":             {one, two, api.OK},
		"q - 1, 0":         {last, zero, api.OK},
		"0, q - 1":         {zero, last, api.OK},
		"q - 1, q - 1":     {last, last, api.OK},
		"q, 0":             {q, zero, api.ErrRange},
		"0, q":             {zero, q, api.ErrRange},
		"q, q - 1":         {q, last, api.ErrRange},
		"q - 1, q":         {last, q, api.ErrRange},
		"q, q":             {q, q, api.ErrRange},
		"q + 1, 1":         {near(q, 1), one, api.ErrRange},
		"1, q + 1":         {one, near(q, 1), api.ErrRange},
		"2^256 - 1, 1":     {most, one, api.ErrRange},
		"1, 2^256 - 1":     {one, most, api.ErrRange},
		"both 2^256 - 1":   {most, most, api.ErrRange},
		"p, p":             {p, p, api.ErrRange},
		"0, 2^255":         {zero, api.U256{3: 1 << 63}, api.ErrRange},
		"2^255, 0":         {api.U256{3: 1 << 63}, zero, api.ErrRange},
		"x, 2^192 - 1":     {x, api.U256{math.MaxUint64, math.MaxUint64, math.MaxUint64}, api.OK},
		"2^192 - 1, q - 1": {api.U256{math.MaxUint64, math.MaxUint64, math.MaxUint64}, last, api.OK},
	} {
		if _, e := sign.Decode(append(digestBytes(c.e), digestBytes(c.s)...)); e != c.want {
			t.Errorf("Decode of %s: %d, want %d", name, e, c.want)
		}
		checkDecode(t, c.e, c.s)
	}
	for _, e := range edges() {
		for _, s := range edges() {
			checkDecode(t, e, s)
		}
	}
}

// P6.6: tweaked keys, from another implementation or known; the order of errors.
func TestTweak(t *testing.T) {
	quarter := parse("3fffffffffffffffffffffffffffffffffffffffffffffffffffffffffffdcbc")
	back := minus(x, order)
	for name, c := range map[string]struct {
		p    api.U256
		t    api.Hash
		want api.U256
		e    api.Errno
	}{
		"x, zeros":           {key, zeros, key, api.OK},
		"x, counted":         {key, counted, parse("b01c6b6671333a6d08ec0a6d3db310b9f22acb066ef0f59846724e6e143c10a6"), api.OK},
		"x, abc (above q)":   {key, abc, parse("663bbd647a0bc430c2373fa47206e5afe490701d116a2a0d7746e289283df54f"), api.OK},
		"x, full":            {key, ones, parse("6248fd1e972374fb558c961ec2b60bff79d794da30dd47767b2e538c2e1f600f"), api.OK},
		"x, q":               {key, digest(q), key, api.OK},
		"x, 2q":              {key, digest(near(p, -1)), key, api.OK},
		"x, q + 1":           {key, digest(near(q, 1)), times(key, four), api.OK},
		"4, 0":               {four, zeros, four, api.OK},
		"4, 1":               {four, digest(one), api.U256{16}, api.OK},
		"4, q - 2":           {four, digest(near(q, -2)), quarter, api.OK},
		"4, q - 1":           {four, digest(near(q, -1)), zero, api.ErrRange},
		"4, 2q - 1":          {four, digest(near(p, -2)), zero, api.ErrRange},
		"1/4, 1":             {quarter, digest(one), zero, api.ErrRange},
		"1/4, q + 1":         {quarter, digest(near(q, 1)), zero, api.ErrRange},
		"1/4, 2":             {quarter, digest(two), four, api.OK},
		"x, -x - 1":          {key, digest(near(back, -1)), quarter, api.OK},
		"x, -x":              {key, digest(back), zero, api.ErrRange},
		"x, -x + 1":          {key, digest(near(back, 1)), four, api.OK},
		"x, 2q - x":          {key, digest(words(new(big.Int).Add(number(back), order))), zero, api.ErrRange},
		"no square, 0":       {api.U256{5}, zeros, zero, api.ErrKey},
		"y, abc":             {y, abc, zero, api.ErrKey},
		"0, 0":               {zero, zeros, zero, api.ErrKey},
		"0, 1":               {zero, digest(one), zero, api.ErrKey},
		"1, 0, both errors":  {one, zeros, zero, api.ErrKey},
		"1, q, both errors":  {one, digest(q), zero, api.ErrKey},
		"1, 1":               {one, digest(one), zero, api.ErrKey},
		"p - 1, 0":           {near(p, -1), zeros, zero, api.ErrKey},
		"p, 0":               {p, zeros, zero, api.ErrKey},
		"p + 1, 0, both":     {near(p, 1), zeros, zero, api.ErrKey},
		"p + 4, q - 1, both": {near(p, 4), digest(near(q, -1)), zero, api.ErrKey},
		"p + 4, 0":           {near(p, 4), zeros, zero, api.ErrKey},
		"2^256 - 1, full":    {most, ones, zero, api.ErrKey},
	} {
		if got, e := sign.Tweak(c.p, c.t); got != c.want || e != c.e {
			t.Errorf("Tweak(%s) = %x, %d, want %x, %d", name, got, e, c.want, c.e)
		}
	}
}

// P6.6: tweaked secrets, from another implementation or known; the order of errors.
func TestTweakSecret(t *testing.T) {
	last := near(q, -1)
	back := minus(x, order)
	for name, c := range map[string]struct {
		x    api.U256
		t    api.Hash
		want api.U256
		e    api.Errno
	}{
		"x, zeros":                  {x, zeros, x, api.OK},
		"x, counted":                {x, counted, parse("2e731946bc2cb74c0a6c87b608ba4205d96522c5a552dbf31b3fa233af3867a1"), api.OK},
		"x, abc (above q)":          {x, abc, parse("67e92d024628802e42a3bd88595a55197856715526543f77b6368679841aa4b7"), api.OK},
		"x, full":                   {x, ones, near(x, 36113), api.OK},
		"x, q":                      {x, digest(q), x, api.OK},
		"x, 2q":                     {x, digest(near(p, -1)), x, api.OK},
		"x, q + 1":                  {x, digest(near(q, 1)), near(x, 1), api.OK},
		"1, 0":                      {one, zeros, one, api.OK},
		"1, 1":                      {one, digest(one), two, api.OK},
		"1, q - 2":                  {one, digest(near(q, -2)), last, api.OK},
		"1, q - 1":                  {one, digest(last), zero, api.ErrRange},
		"1, q":                      {one, digest(q), one, api.OK},
		"1, 2q - 1":                 {one, digest(near(p, -2)), zero, api.ErrRange},
		"q - 1, 0":                  {last, zeros, last, api.OK},
		"q - 1, 1":                  {last, digest(one), zero, api.ErrRange},
		"q - 1, q + 1":              {last, digest(near(q, 1)), zero, api.ErrRange},
		"q - 1, 2":                  {last, digest(two), one, api.OK},
		"q - 1, full":               {last, ones, api.U256{36112}, api.OK},
		"x, -x - 1":                 {x, digest(near(back, -1)), last, api.OK},
		"x, -x":                     {x, digest(back), zero, api.ErrRange},
		"x, -x + 1":                 {x, digest(near(back, 1)), one, api.OK},
		"x, 2q - x":                 {x, digest(words(new(big.Int).Add(number(back), order))), zero, api.ErrRange},
		"0, 0, both errors":         {zero, zeros, zero, api.ErrKey},
		"0, q, both errors":         {zero, digest(q), zero, api.ErrKey},
		"0, 1":                      {zero, digest(one), zero, api.ErrKey},
		"q, 0, both errors":         {q, zeros, zero, api.ErrKey},
		"q, 1":                      {q, digest(one), zero, api.ErrKey},
		"q + 1, q - 1, both errors": {near(q, 1), digest(last), zero, api.ErrKey},
		"q + 1, 1":                  {near(q, 1), digest(one), zero, api.ErrKey},
		"p - 1, q, both errors":     {near(p, -1), digest(q), zero, api.ErrKey},
		"2^256 - 1, abc":            {most, abc, zero, api.ErrKey},
	} {
		if got, e := sign.TweakSecret(c.x, c.t); got != c.want || e != c.e {
			t.Errorf("TweakSecret(%s) = %x, %d, want %x, %d", name, got, e, c.want, c.e)
		}
	}
}

// checkTweak compares a tweaked key with what P6.6 says.
func checkTweak(t *testing.T, k api.U256, h api.Hash) {
	t.Helper()
	want, code := zero, api.ErrKey
	if valid(k) {
		want, code = times(k, power(four, modulo(new(big.Int).SetBytes(h[:]), order))), api.OK
		if want == one {
			want, code = zero, api.ErrRange
		}
	}
	if got, e := sign.Tweak(k, h); got != want || e != code {
		t.Errorf("Tweak(%x, %x) = %x, %d, want %x, %d", k, h, got, e, want, code)
	}
}

// checkTweakSecret compares a tweaked secret with what P6.6 says, and its public key with the tweaked key.
func checkTweakSecret(t *testing.T, a api.U256, h api.Hash) {
	t.Helper()
	want, code := zero, api.ErrKey
	if secret(a) {
		want, code = plus(a, words(new(big.Int).SetBytes(h[:]))), api.OK
		if want == zero {
			code = api.ErrRange
		}
	}
	got, e := sign.TweakSecret(a, h)
	if got != want || e != code {
		t.Errorf("TweakSecret(%x, %x) = %x, %d, want %x, %d", a, h, got, e, want, code)
	}
	k, e := sign.Public(a)
	if e != api.OK {
		return
	}
	public, e := sign.Tweak(k, h)
	if e != code {
		t.Errorf("Tweak(Public(%x), %x) returns %d, TweakSecret %d", a, h, e, code)
	}
	if code != api.OK {
		return
	}
	if other, e := sign.Public(got); other != public || e != api.OK {
		t.Errorf("Public(TweakSecret(%x, %x)) = %x, %d; Tweak(Public) = %x", a, h, other, e, public)
	}
}

// P6.6 and the Consequences: all keys and secrets with all tweaks, those among them that lead to 1 and to 0.
func TestTweakAll(t *testing.T) {
	for _, a := range edges() {
		tweaks := append(edges(), minus(a, order), near(minus(a, order), 1), words(new(big.Int).Add(number(minus(a, order)), order)))
		for _, h := range tweaks {
			checkTweak(t, a, digest(h))
			checkTweak(t, power(four, a), digest(h))
			checkTweakSecret(t, a, digest(h))
		}
	}
	l := randoms(100, 4)
	for i, a := range l {
		h := digest(l[(i+1)%len(l)])
		checkTweak(t, a, h)
		checkTweakSecret(t, a, h)
	}
}

// Consequences: a tweaked secret signs for the tweaked key, and the encoding of its signature is read back.
func TestTweakedSignature(t *testing.T) {
	for _, a := range secrets() {
		for _, h := range []api.Hash{zeros, counted, abc, ones} {
			k, e := sign.Public(a)
			moved, e1 := sign.TweakSecret(a, h)
			public, e2 := sign.Tweak(k, h)
			s, e3 := sign.Sign(moved, abc)
			read, e4 := sign.Decode(sign.Encode(s))
			if e != api.OK || e1 != api.OK || e2 != api.OK || e3 != api.OK || e4 != api.OK {
				t.Fatalf("%x, %x: errors %d, %d, %d, %d, %d", a, h, e, e1, e2, e3, e4)
			}
			if read != s || !sign.Verify(public, abc, read) {
				t.Errorf("%x, %x: the tweaked key does not verify the signature of the tweaked secret", a, h)
			}
			if public != k && sign.Verify(k, abc, read) {
				t.Errorf("%x, %x: the key verifies the signature of the tweaked secret", a, h)
			}
		}
	}
}

// P1: all functions return for all edges.
func TestAllReturn(t *testing.T) {
	for _, a := range edges() {
		for _, b := range edges() {
			s := api.Signature{E: a, S: b}
			sign.Decode(sign.Encode(s))
			for _, k := range []api.U256{zero, one, four, key, near(p, -1), p, most} {
				if sign.Verify(k, abc, s) {
					t.Errorf("Verify(%x, %x) is true", k, s)
				}
			}
		}
	}
}

// The examples of the chapter, and the one of the document.
func TestExamples(t *testing.T) {
	if k, e := sign.Public(one); k != four || e != api.OK {
		t.Errorf("Public(1) = %x, %d", k, e)
	}
	if k, e := sign.Public(zero); k != zero || e != api.ErrKey {
		t.Errorf("Public(0) = %x, %d", k, e)
	}
	if sign.Valid(one) {
		t.Error("Valid(1) is true")
	}
	b := sign.Encode(api.Signature{E: one, S: two})
	if want := [64]byte{31: 1, 63: 2}; !bytes.Equal(b, want[:]) {
		t.Errorf("Encode(1, 2) = %x", b)
	}
	s, e := sign.Sign(one, abc)
	if e != api.OK || !sign.Verify(four, abc, s) {
		t.Errorf("the signature %x by the secret 1 is not verified by the key 4", s)
	}
}

// FuzzSign looks for numbers and digests for which a result is not that of package big, or a function panics (P1).
func FuzzSign(f *testing.F) {
	for _, a := range []api.U256{zero, one, near(q, -1), q, p, most, x} {
		f.Add(digestBytes(a), digestBytes(y))
		f.Add(digestBytes(a), digestBytes(minus(a, order)))
	}
	f.Fuzz(func(t *testing.T, r, s []byte) {
		a, b := words(new(big.Int).SetBytes(r)), words(new(big.Int).SetBytes(s))
		checkPublic(t, a)
		checkSign(t, a, digest(b))
		checkTweak(t, a, digest(b))
		checkTweakSecret(t, a, digest(b))
		checkDecode(t, a, b)
		if got := sign.Valid(a); got != valid(a) {
			t.Errorf("Valid(%x) = %v", a, got)
		}
		if sign.Verify(b, abc, api.Signature{E: a, S: b}) {
			t.Errorf("Verify(%x, E = %x, S the same) is true", b, a)
		}
		if len(r) != 64 {
			if _, e := sign.Decode(r); e != api.ErrArity {
				t.Errorf("Decode(%x) returns %d", r, e)
			}
		}
	})
}

func BenchmarkSign(b *testing.B) {
	for b.Loop() {
		sign.Sign(x, abc)
	}
}

func BenchmarkVerify(b *testing.B) {
	s, _ := sign.Sign(x, abc)
	for b.Loop() {
		sign.Verify(key, abc, s)
	}
}
