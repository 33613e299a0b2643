package script_test

import (
	"bytes"
	"crypto/sha256"
	"fmt"
	"math"
	"math/rand/v2"
	"slices"
	"testing"

	"lightclient/api"
	"lightclient/group"
	"lightclient/script"
	"lightclient/sha"
	"lightclient/sign"
	"lightclient/wide"
)

var (
	message = sha.Sum([]byte("what is signed"))
	other   = sha.Sum([]byte("what is not signed"))
	env     = api.Env{Message: message, Height: 1000, Age: 10}
	yes     = []byte{1}
)

// key returns the public key of a small secret, as an item.
func key(x uint64) []byte {
	p, _ := sign.Public(wide.FromUint(x))
	b := wide.Bytes(p)
	return b[:]
}

// number returns the public key of a small secret.
func number(x uint64) api.U256 {
	p, _ := sign.Public(wide.FromUint(x))
	return p
}

// signed returns the signature of m by a small secret, as an item.
func signed(x uint64, m api.Hash) []byte {
	s, _ := sign.Sign(wide.FromUint(x), m)
	return sign.Encode(s)
}

// items returns a stack; its last item is the top.
func items(l ...[]byte) [][]byte { return l }

// many returns a stack of n items.
func many(n int) [][]byte {
	l := make([][]byte, n)
	for i := range l {
		l[i] = []byte{byte(i)}
	}
	return l
}

// sameStack reports whether two stacks have the same items.
func sameStack(a, b [][]byte) bool { return slices.EqualFunc(a, b, bytes.Equal) }

// ran is a script on a stack with what must come of it.
type ran struct {
	name  string
	b     []byte
	stack [][]byte
	want  [][]byte
	cost  int
	e     api.Errno
}

// check runs scripts, in an environment.
func check(t *testing.T, e api.Env, cases []ran) {
	t.Helper()
	for _, c := range cases {
		stack, cost, err := script.Run(c.b, c.stack, e)
		if !sameStack(stack, c.want) || cost != c.cost || err != c.e {
			t.Errorf("%s: %q on %v = %v, %d, %d, want %v, %d, %d", c.name, script.Text(c.b), c.stack, stack, cost, err, c.want, c.cost, c.e)
		}
	}
}

// wrong returns a case that has an error.
func wrong(name string, b []byte, stack [][]byte, e api.Errno) ran {
	return ran{name: name, b: b, stack: stack, e: e}
}

// P8.5: what each operation that only moves items does to the stack.
func TestRunMoves(t *testing.T) {
	a, b, c := []byte{1, 2}, []byte{3}, []byte{}
	full := many(64)
	check(t, env, []ran{
		{"nothing", nil, nil, nil, 0, api.OK},
		{"nothing on items", nil, items(a, b), items(a, b), 0, api.OK},
		{"push", []byte{1, 2, 0, 9}, items(a), items(a, []byte{0, 9}), 1, api.OK},
		{"push of nothing", []byte{1, 0}, nil, items(nil), 1, api.OK},
		{"push to the last place", []byte{1, 1, 5}, full[:63], append(slices.Clone(full[:63]), []byte{5}), 1, api.OK},
		wrong("push to a full stack", []byte{1, 1, 5}, full, api.ErrLimit),
		wrong("push of nothing to a full stack", []byte{1, 0}, full, api.ErrLimit),
		{"push after drop", []byte{3, 1, 1, 5}, full, append(slices.Clone(full[:63]), []byte{5}), 2, api.OK},
		{"dup", []byte{2}, items(b, a), items(b, a, a), 1, api.OK},
		{"dup of an empty item", []byte{2}, items(c), items(c, c), 1, api.OK},
		wrong("dup of nothing", []byte{2}, nil, api.ErrStack),
		{"dup to the last place", []byte{2}, full[:63], append(slices.Clone(full[:63]), full[62]), 1, api.OK},
		wrong("dup to a full stack", []byte{2}, full, api.ErrLimit),
		{"drop", []byte{3}, items(a, b), items(a), 1, api.OK},
		{"drop of the last item", []byte{3}, items(a), nil, 1, api.OK},
		wrong("drop of nothing", []byte{3}, nil, api.ErrStack),
		{"swap", []byte{4}, items(c, a, b), items(c, b, a), 1, api.OK},
		{"swap of two", []byte{4}, items(a, b), items(b, a), 1, api.OK},
		wrong("swap of one", []byte{4}, items(a), api.ErrStack),
		wrong("swap of nothing", []byte{4}, nil, api.ErrStack),
	})
}

// P8.5: what each operation that makes an item of others does.
func TestRunMakes(t *testing.T) {
	long := bytes.Repeat([]byte{4}, 520)
	digest := sha256.Sum256([]byte("abc"))
	nothing := sha256.Sum256(nil)
	check(t, env, []ran{
		{"equal", []byte{5}, items(yes, []byte{1, 2}, []byte{1, 2}), items(yes, yes), 1, api.OK},
		{"equal of empty items", []byte{5}, items(nil, []byte{}), items(yes), 1, api.OK},
		{"equal of others", []byte{5}, items([]byte{1, 2}, []byte{1, 3}), items(nil), 1, api.OK},
		{"equal of an item and its beginning", []byte{5}, items([]byte{1, 2}, []byte{1}), items(nil), 1, api.OK},
		{"equal of items that are not true", []byte{5}, items([]byte{0}, nil), items(nil), 1, api.OK},
		{"equal of long items", []byte{5}, items(long, slices.Clone(long)), items(yes), 1, api.OK},
		wrong("equal of one", []byte{5}, items(yes), api.ErrStack),
		wrong("equal of nothing", []byte{5}, nil, api.ErrStack),
		{"not of a true item", []byte{6}, items(yes, []byte{7}), items(yes, nil), 1, api.OK},
		{"not of an empty item", []byte{6}, items(nil), items(yes), 1, api.OK},
		{"not of zeros", []byte{6}, items([]byte{0, 0}), items(yes), 1, api.OK},
		{"not of 0, 1", []byte{6}, items([]byte{0, 1}), items(nil), 1, api.OK},
		{"not of 1, 0", []byte{6}, items([]byte{1, 0}), items(nil), 1, api.OK},
		{"not of 0, 128, 0", []byte{6}, items([]byte{0, 128, 0}), items(nil), 1, api.OK},
		wrong("not of nothing", []byte{6}, nil, api.ErrStack),
		{"verify", []byte{7}, items(nil, yes), items(nil), 1, api.OK},
		{"verify of 0, 1", []byte{7}, items([]byte{0, 1}), nil, 1, api.OK},
		{"verify of 1, 0", []byte{7}, items([]byte{1, 0}), nil, 1, api.OK},
		wrong("verify of an empty item", []byte{7}, items(yes, nil), api.ErrFalse),
		wrong("verify of zeros", []byte{7}, items([]byte{0, 0, 0}), api.ErrFalse),
		wrong("verify of nothing", []byte{7}, nil, api.ErrStack),
		{"hash", []byte{8}, items(yes, []byte("abc")), items(yes, digest[:]), 6, api.OK},
		{"hash of an empty item", []byte{8}, items(nil), items(nothing[:]), 6, api.OK},
		wrong("hash of nothing", []byte{8}, nil, api.ErrStack),
		{"hash on a full stack", []byte{8, 3}, many(64), many(63), 7, api.OK},
		{"size", []byte{9}, items(nil, []byte{0, 0, 0}), items(nil, []byte{0, 0, 0}, []byte{3}), 1, api.OK},
		{"size of an empty item", []byte{9}, items(nil), items(nil, nil), 1, api.OK},
		{"size of 255 bytes", []byte{9}, items(long[:255]), items(long[:255], []byte{255}), 1, api.OK},
		{"size of 256 bytes", []byte{9}, items(long[:256]), items(long[:256], []byte{0, 1}), 1, api.OK},
		{"size of 520 bytes", []byte{9}, items(long), items(long, []byte{8, 2}), 1, api.OK},
		wrong("size of nothing", []byte{9}, nil, api.ErrStack),
		wrong("size on a full stack", []byte{9}, many(64), api.ErrLimit),
		{"equal on a full stack", []byte{5, 3}, many(64), many(62), 2, api.OK},
		{"not on a full stack", []byte{6, 3}, many(64), many(63), 2, api.OK},
		wrong("fail", []byte{17}, items(yes), api.ErrFalse),
		wrong("fail on nothing", []byte{17}, nil, api.ErrFalse),
		wrong("fail on a full stack", []byte{17}, many(64), api.ErrFalse),
	})
}

// P8.5: OpSig.
func TestRunSig(t *testing.T) {
	s := signed(5, message)
	order := wide.Bytes(group.Order())
	changed := slices.Clone(s)
	changed[40] ^= 1
	tooGreat := append(slices.Clone(order[:]), s[32:]...)
	non := api.U256{2} // half of all numbers are public keys
	for sign.Valid(non) {
		non[0]++
	}
	noKey := wide.Bytes(non)
	one := wide.Bytes(wide.FromUint(1))
	k := key(5)
	check(t, env, []ran{
		{"right", []byte{10}, items(nil, s, k), items(nil, yes), 21, api.OK},
		{"empty", []byte{10}, items(yes, nil, k), items(yes, nil), 21, api.OK},
		{"empty, not nil", []byte{10}, items([]byte{}, k), items(nil), 21, api.OK},
		{"on a full stack", []byte{10, 3}, append(many(62), s, k), many(62), 22, api.OK},
		wrong("no item", []byte{10}, nil, api.ErrStack),
		wrong("one item", []byte{10}, items(k), api.ErrStack),
		wrong("one item that is no key", []byte{10}, items(nil), api.ErrStack),
		wrong("a key of 31 bytes", []byte{10}, items(s, k[1:]), api.ErrKey),
		wrong("a key of 33 bytes", []byte{10}, items(s, append(slices.Clone(k), 0)), api.ErrKey),
		wrong("a key of 33 bytes, the first is 0", []byte{10}, items(s, append([]byte{0}, k...)), api.ErrKey),
		wrong("an empty key", []byte{10}, items(s, nil), api.ErrKey),
		wrong("a key of 32 zeros", []byte{10}, items(s, make([]byte, 32)), api.ErrKey),
		wrong("the key 1", []byte{10}, items(s, one[:]), api.ErrKey),
		wrong("a key that is no public key", []byte{10}, items(s, noKey[:]), api.ErrKey),
		wrong("a key above the modulus", []byte{10}, items(s, bytes.Repeat([]byte{255}, 32)), api.ErrKey),
		wrong("no public key and an empty signature", []byte{10}, items(nil, noKey[:]), api.ErrKey),
		wrong("a key of 31 bytes and an empty signature", []byte{10}, items(nil, k[1:]), api.ErrKey),
		wrong("no public key and a wrong signature", []byte{10}, items(changed, noKey[:]), api.ErrKey),
		wrong("a changed signature", []byte{10}, items(changed, k), api.ErrSignature),
		wrong("of another message", []byte{10}, items(signed(5, other), k), api.ErrSignature),
		wrong("of another key", []byte{10}, items(signed(6, message), k), api.ErrSignature),
		wrong("of 63 bytes", []byte{10}, items(s[:63], k), api.ErrSignature),
		wrong("of 65 bytes", []byte{10}, items(append(slices.Clone(s), 0), k), api.ErrSignature),
		wrong("of 1 byte", []byte{10}, items([]byte{0}, k), api.ErrSignature),
		wrong("of 64 zeros", []byte{10}, items(make([]byte, 64), k), api.ErrSignature),
		wrong("of numbers that are too great", []byte{10}, items(tooGreat, k), api.ErrSignature),
		wrong("key and signature exchanged", []byte{10}, items(k, s), api.ErrKey),
	})
}

// P8.5: OpMulti with right and empty signatures: how many there must be, and which belongs to which key.
func TestRunMultiCounts(t *testing.T) {
	for n := 1; n <= 3; n++ {
		for m := 1; m <= n; m++ {
			for set := range 1 << n {
				var stack [][]byte
				count := 0
				for i := range n {
					if set>>i&1 == 1 {
						stack = append(stack, signed(uint64(i+2), message))
						count++
					} else {
						stack = append(stack, nil)
					}
				}
				for i := range n {
					stack = append(stack, key(uint64(i+2)))
				}
				answer := []byte(nil)
				if count >= m {
					answer = yes
				}
				name := fmt.Sprintf("%d of %d, the set %b", m, n, set)
				check(t, env, []ran{{name, []byte{11, byte(m), byte(n)}, append(items(nil, []byte{9}), stack...), items(nil, []byte{9}, answer), 1 + 20*n, api.OK}})
			}
		}
	}
}

// P8.5: OpMulti with 15 keys, of which some are the same.
func TestRunMultiMost(t *testing.T) {
	var signatures, keys [][]byte
	for i := range 15 {
		x := uint64(2 + i/2)
		keys = append(keys, key(x))
		if i%3 == 0 {
			signatures = append(signatures, signed(x, message))
		} else {
			signatures = append(signatures, nil)
		}
	}
	stack := slices.Concat(many(34), signatures, keys)
	check(t, env, []ran{
		{"5 of 15", []byte{11, 5, 15}, stack, append(many(34), yes), 301, api.OK},
		{"6 of 15", []byte{11, 6, 15}, stack, append(many(34), nil), 301, api.OK},
		{"15 of 15", []byte{11, 15, 15}, stack, append(many(34), nil), 301, api.OK},
	})
}

// P8.5: the errors of OpMulti, in their order.
func TestRunMultiErrors(t *testing.T) {
	a, b := signed(5, message), signed(6, message)
	ka, kb := key(5), key(6)
	bad := bytes.Repeat([]byte{255}, 32)
	two := []byte{11, 1, 2}
	check(t, env, []ran{
		{"both", two, items(a, b, ka, kb), items(yes), 41, api.OK},
		wrong("no item", two, nil, api.ErrStack),
		wrong("three items", two, items(a, ka, kb), api.ErrStack),
		wrong("three items, no key among them", two, items(nil, nil, nil), api.ErrStack),
		wrong("one item for one key", []byte{11, 1, 1}, items(ka), api.ErrStack),
		wrong("29 items for 15 keys", []byte{11, 1, 15}, many(29), api.ErrStack),
		wrong("30 items for 15 keys", []byte{11, 1, 15}, many(30), api.ErrKey),
		wrong("signatures exchanged", two, items(b, a, ka, kb), api.ErrSignature),
		wrong("keys exchanged", two, items(a, b, kb, ka), api.ErrSignature),
		wrong("signatures on top of the keys", two, items(ka, kb, a, b), api.ErrKey),
		wrong("the second signature is wrong, and one is enough", two, items(a, a, ka, kb), api.ErrSignature),
		wrong("the first signature is wrong, and one is enough", two, items(b, b, ka, kb), api.ErrSignature),
		wrong("the second signature is one byte", two, items(a, []byte{0}, ka, kb), api.ErrSignature),
		wrong("the first key is bad", two, items(nil, b, bad, kb), api.ErrKey),
		wrong("the second key is bad", two, items(a, nil, ka, bad), api.ErrKey),
		wrong("the second key has 31 bytes", two, items(a, nil, ka, kb[1:]), api.ErrKey),
		wrong("no signatures and a bad key", two, items(nil, nil, ka, bad), api.ErrKey),
		wrong("the first signature is wrong, the second key is bad", two, items(b, nil, ka, bad), api.ErrSignature),
		wrong("the first key is bad, the second signature is wrong", two, items(nil, a, bad, kb), api.ErrKey),
		wrong("the first key is bad, and its signature is wrong", two, items(b, nil, bad, kb), api.ErrKey),
		wrong("of another message", two, items(signed(5, other), nil, ka, kb), api.ErrSignature),
	})
}

// P8.5: OpAfter and OpOlder: the number, the lock and their order.
func TestRunLocks(t *testing.T) {
	for _, c := range []struct {
		code byte
		at   func(n int) api.Env
	}{
		{12, func(n int) api.Env { return api.Env{Message: message, Height: n, Age: math.MinInt} }},
		{13, func(n int) api.Env { return api.Env{Message: message, Height: math.MinInt, Age: n} }},
	} {
		b := []byte{c.code}
		for _, n := range []uint32{0, 1, 2, 255, 256, 1 << 24, math.MaxInt32, 1 << 31, math.MaxUint32} {
			item := script.Item(n)
			check(t, c.at(int(n)), []ran{{"open", b, items(nil, item), items(nil, item), 1, api.OK}})
			check(t, c.at(int(n)+1), []ran{{"open for long", b, items(item), items(item), 1, api.OK}})
			check(t, c.at(math.MaxInt), []ran{{"open for ever", b, items(item), items(item), 1, api.OK}})
			check(t, c.at(int(n)-1), []ran{wrong("closed", b, items(item), api.ErrLock)})
			check(t, c.at(-1), []ran{wrong("before the beginning", b, items(item), api.ErrLock)})
			check(t, c.at(math.MinInt), []ran{wrong("long before", b, items(item), api.ErrLock)})
		}
		for _, item := range items([]byte{0}, []byte{5, 0}, []byte{1, 2, 3, 4, 5}, make([]byte, 4), bytes.Repeat([]byte{1}, 520)) {
			check(t, c.at(math.MaxInt), []ran{wrong("no number", b, items(item), api.ErrItem)})
			check(t, c.at(-5), []ran{wrong("no number, and closed", b, items(item), api.ErrItem)})
		}
		check(t, c.at(100), []ran{
			wrong("nothing", b, nil, api.ErrStack),
			{"on a full stack", b, many(64), many(64), 1, api.OK},
		})
	}
}

// P8.5: which operations an OpIf does and skips, and what they cost.
func TestRunBranches(t *testing.T) {
	one, two, no := []byte{1}, []byte{2}, []byte(nil)
	both := []byte{14, 1, 1, 1, 15, 1, 1, 2, 16}            // if <01> else <02> end
	alone := []byte{14, 1, 1, 1, 16}                        // if <01> end
	inner := []byte{14, 14, 1, 1, 1, 15, 1, 1, 2, 16, 16}   // if if <01> else <02> end end
	lower := []byte{14, 15, 14, 1, 1, 1, 15, 17, 16, 16}    // if else if <01> else fail end end
	behind := []byte{14, 17, 15, 16, 1, 1, 1}               // if fail else end <01>
	dead := []byte{14, 14, 17, 15, 17, 16, 17, 16, 1, 1, 1} // if if fail else fail end fail end <01>
	check(t, env, []ran{
		{"true", both, items(two, one), items(two, one), 4, api.OK},
		{"not true", both, items(one, no), items(one, two), 4, api.OK},
		{"zeros are not true", both, items([]byte{0, 0}), items(two), 4, api.OK},
		{"0, 1 is true", both, items([]byte{0, 1}), items(one), 4, api.OK},
		{"true without else", alone, items(one), items(one), 3, api.OK},
		{"not true without else", alone, items(no), nil, 2, api.OK},
		wrong("nothing to look at", both, nil, api.ErrStack),
		{"true, true", inner, items(one, one), items(one), 6, api.OK},
		{"not true, true", inner, items(no, one), items(two), 6, api.OK},
		{"not true outside", inner, items(one, no), items(one), 2, api.OK},
		{"not true outside, and no item for the inner one", inner, items(no), nil, 2, api.OK},
		wrong("true outside, and no item for the inner one", inner, items(one), api.ErrStack),
		{"behind else", lower, items(one, no), items(one), 7, api.OK},
		wrong("behind both else", lower, items(no, no), api.ErrFalse),
		{"before else", lower, items(one), nil, 3, api.OK},
		{"what fails is skipped", behind, items(no), items(one), 4, api.OK},
		wrong("what fails is done", behind, items(one), api.ErrFalse),
		{"an inner else does not end what is skipped", dead, items(no), items(one), 3, api.OK},
		{"if end", []byte{14, 16}, items(no), nil, 2, api.OK},
		{"if else end", []byte{14, 15, 16}, items(no), nil, 3, api.OK},
		{"one behind the other", []byte{14, 1, 1, 1, 16, 4, 14, 1, 1, 2, 15, 1, 1, 3, 16}, items(no, one), items(one, []byte{3}), 8, api.OK},
		{"the item of an inner if is from the branch", []byte{14, 1, 1, 1, 15, 1, 0, 16, 14, 9, 16}, items(two, one), items(two, one), 7, api.OK},
	})
}

// P8.5: OpIf, OpElse and OpEnd that do not belong together, also where they would be skipped, and behind other errors.
func TestRunNesting(t *testing.T) {
	full := many(65)
	for _, c := range []struct {
		b  []byte
		ok bool
	}{
		{[]byte{14, 16}, true}, {[]byte{14, 15, 16}, true}, {[]byte{14, 14, 16, 16}, true}, {[]byte{14, 14, 15, 16, 15, 16}, true},
		{[]byte{14, 15, 14, 15, 16, 16}, true}, {[]byte{14, 16, 14, 15, 16}, true},
		{[]byte{14}, false}, {[]byte{15}, false}, {[]byte{16}, false},
		{[]byte{14, 15}, false}, {[]byte{15, 16}, false}, {[]byte{14, 15, 15, 16}, false}, {[]byte{14, 16, 15}, false}, {[]byte{14, 16, 16}, false},
		{[]byte{14, 14, 16}, false}, {[]byte{14, 14, 15, 16, 15, 15, 16}, false}, {[]byte{14, 14, 15, 15, 16, 16}, false}, {[]byte{16, 14}, false},
		{[]byte{14, 14, 15, 16}, false}, {[]byte{14, 15, 14, 15, 15, 16, 16}, false}, {[]byte{14, 15, 14, 16, 15, 16}, false},
		{bytes.Repeat([]byte{14}, 520), false}, {append(bytes.Repeat([]byte{14}, 260), bytes.Repeat([]byte{16}, 260)...), true},
	} {
		_, _, e := script.Run(c.b, items(nil, nil, nil), env)
		if c.ok != (e == api.OK) || !c.ok && e != api.ErrIf {
			t.Errorf("%q = %d", script.Text(c.b), e)
		}
		if c.ok {
			continue
		}
		check(t, env, []ran{
			wrong("on a stack that is too high", c.b, full, api.ErrIf),
			wrong("on an item that is too long", c.b, items(make([]byte, 521)), api.ErrIf),
		})
		if len(c.b) < 500 {
			check(t, env, []ran{
				wrong("behind what fails", append([]byte{17}, c.b...), nil, api.ErrIf),
				wrong("behind what lacks an item", append([]byte{2, 3, 4}, c.b...), nil, api.ErrIf),
				wrong("before what costs too much", append(slices.Clone(c.b[:1]), bytes.Repeat([]byte{8}, 500)...), nil, api.ErrIf),
			})
		}
	}
}

// P8.5: the limits of the stack that is given, and what comes before and behind them.
func TestRunGivenStack(t *testing.T) {
	long := bytes.Repeat([]byte{1}, 520)
	longer := bytes.Repeat([]byte{1}, 521)
	check(t, env, []ran{
		{"64 items", nil, many(64), many(64), 0, api.OK},
		{"520 bytes", nil, items(long, nil, long), items(long, nil, long), 0, api.OK},
		wrong("65 items", nil, many(65), api.ErrLimit),
		wrong("many items", nil, many(10000), api.ErrLimit),
		wrong("521 bytes on top", nil, items(nil, longer), api.ErrLimit),
		wrong("521 bytes at the bottom", nil, items(longer, nil), api.ErrLimit),
		wrong("521 bytes that are dropped", []byte{3}, items(longer), api.ErrLimit),
		wrong("65 items, of which one is dropped", []byte{3}, many(65), api.ErrLimit),
		wrong("65 items and no script", []byte{18}, many(65), api.ErrOp),
		wrong("521 bytes and a script that is cut off", []byte{1}, items(longer), api.ErrShort),
		wrong("65 items and an OpMulti of no keys", []byte{11, 0, 0}, many(65), api.ErrRange),
		wrong("65 items and a script that is too long", bytes.Repeat([]byte{2}, 521), many(65), api.ErrLimit),
		wrong("65 items and a script that fails", []byte{17}, many(65), api.ErrLimit),
		wrong("no script, and not nested", []byte{16, 18}, nil, api.ErrOp),
		wrong("cut off, and not nested", []byte{16, 1}, nil, api.ErrShort),
		wrong("too long, and not nested", bytes.Repeat([]byte{16}, 521), nil, api.ErrLimit),
	})
}

// P8.5: the cost of each operation, with MaxCost and one more.
func TestRunCost(t *testing.T) {
	keyed := append(items(nil), key(3))
	three := items(nil, nil, nil, key(3), key(3), key(3))
	for _, c := range []struct {
		name  string
		b     []byte
		stack [][]byte
		cost  int
	}{
		{"push", []byte{1, 1, 7}, nil, 1},
		{"dup", []byte{2}, items(yes), 1},
		{"drop", []byte{3}, items(yes), 1},
		{"swap", []byte{4}, items(yes, yes), 1},
		{"equal", []byte{5}, items(yes, yes), 1},
		{"not", []byte{6}, items(yes), 1},
		{"verify", []byte{7}, items(yes), 1},
		{"hash", []byte{8}, items(yes), 6},
		{"size", []byte{9}, items(yes), 1},
		{"sig", []byte{10}, keyed, 21},
		{"multi of 1", []byte{11, 1, 1}, keyed, 21},
		{"multi of 3", []byte{11, 1, 3}, three, 61},
		{"after", []byte{12}, items(yes), 1},
		{"older", []byte{13}, items(yes), 1},
		{"if end", []byte{14, 16}, items(yes), 2},
		{"if else end, true", []byte{14, 15, 16}, items(yes), 3},
		{"if else end, not true", []byte{14, 15, 16}, items(nil), 3},
		{"skipped", []byte{14, 8, 10, 11, 1, 15, 17, 2, 14, 15, 16, 16}, items(nil), 2},
		{"skipped behind else", []byte{14, 15, 8, 10, 11, 1, 15, 17, 2, 14, 15, 16, 16}, items(yes), 3},
	} {
		if _, cost, e := script.Run(c.b, c.stack, env); cost != c.cost || e != api.OK {
			t.Errorf("%s: the cost is %d, %d, want %d", c.name, cost, e, c.cost)
		}
		for over := range 2 {
			b := append(costly(500-c.cost+over), c.b...)
			stack := append(items(yes), c.stack...)
			_, cost, e := script.Run(b, stack, env)
			if len(b) > api.MaxScript {
				t.Fatal("the script is too long")
			}
			if over == 0 && (cost != 500 || e != api.OK) || over == 1 && (cost != 0 || e != api.ErrCost) {
				t.Errorf("%s behind the cost %d = %d, %d", c.name, 500-c.cost+over, cost, e)
			}
		}
	}
}

// costly returns operations of a cost which leave the stack as it is.
func costly(cost int) []byte {
	var b []byte
	spent := 0
	if cost%2 == 1 { // dup if end
		b, spent = []byte{2, 14, 16}, 3
	}
	for spent+8 <= cost { // dup hash drop
		b, spent = append(b, 2, 8, 3), spent+8
	}
	for spent < cost { // dup drop
		b, spent = append(b, 2, 3), spent+2
	}
	return b
}

// P8.5: ErrCost comes before the errors of the operation, and behind those of the operations before it.
func TestRunCostFirst(t *testing.T) {
	b := costly(500)
	for _, c := range []ran{
		wrong("fail", []byte{17}, items(yes), api.ErrCost),
		wrong("swap of one item", []byte{4}, items(yes), api.ErrCost),
		wrong("after that is closed", []byte{12}, items(script.Item(5000)), api.ErrCost),
	} {
		if _, _, e := script.Run(append(slices.Clone(b), c.b...), c.stack, env); e != c.e {
			t.Errorf("%s behind the cost 500 = %d", c.name, e)
		}
	}
	check(t, env, []ran{
		wrong("all of it costs too much, but fails before", append([]byte{17}, b...), items(yes), api.ErrFalse),
		wrong("a check costs too much, and lacks items", append(costly(480), 11, 1, 1), items(yes), api.ErrCost),
		wrong("a check costs as much as it may, and lacks items", append(costly(479), 11, 1, 1), items(yes), api.ErrStack),
		wrong("twice 15 signatures, of no keys", []byte{11, 1, 15, 11, 1, 15}, many(64), api.ErrKey),
	})
	keys := many(0)
	for range 15 {
		keys = append(keys, nil)
	}
	for range 15 {
		keys = append(keys, key(3))
	}
	stack := append(slices.Clone(keys), keys...)
	check(t, env, []ran{
		{"15 signatures", []byte{11, 1, 15}, stack, append(slices.Clone(keys), nil), 301, api.OK},
		wrong("twice 15 signatures", []byte{11, 1, 15, 3, 11, 1, 15}, stack, api.ErrCost),
	})
}

// P8.6: what is behind a script that is satisfied.
func TestSatisfied(t *testing.T) {
	for _, c := range []struct {
		name    string
		b       []byte
		witness [][]byte
		want    api.Errno
	}{
		{"one true item", nil, items(yes), api.OK},
		{"one true item of many bytes", nil, items([]byte{0, 0, 128, 0}), api.OK},
		{"nothing", nil, nil, api.ErrStack},
		{"an empty list", nil, items(), api.ErrStack},
		{"two items", nil, items(yes, yes), api.ErrStack},
		{"two items, of which the top is not true", nil, items(yes, nil), api.ErrStack},
		{"64 items", nil, many(64), api.ErrStack},
		{"65 items", nil, many(65), api.ErrLimit},
		{"an empty item", nil, items(nil), api.ErrFalse},
		{"zeros", nil, items([]byte{0, 0}), api.ErrFalse},
		{"one pushed", []byte{1, 1, 1}, nil, api.OK},
		{"nothing pushed", []byte{1, 0}, nil, api.ErrFalse},
		{"one more pushed", []byte{1, 1, 1}, items(yes), api.ErrStack},
		{"the last dropped", []byte{3}, items(yes), api.ErrStack},
		{"made true", []byte{6}, items(nil), api.OK},
		{"made false", []byte{6}, items(yes), api.ErrFalse},
		{"fail", []byte{17}, items(yes), api.ErrFalse},
		{"no script", []byte{18}, items(yes), api.ErrOp},
		{"cut off", []byte{1}, items(yes), api.ErrShort},
		{"no keys", []byte{11, 0, 0}, items(yes), api.ErrRange},
		{"too long", bytes.Repeat([]byte{2}, 521), items(yes), api.ErrLimit},
		{"not nested", []byte{16}, items(yes), api.ErrIf},
		{"closed", []byte{12}, items(script.Item(1001)), api.ErrLock},
		{"no number", []byte{12}, items([]byte{0}), api.ErrItem},
		{"no key", []byte{10}, items(nil, nil), api.ErrKey},
		{"no signature", []byte{10}, items(yes, key(3)), api.ErrSignature},
		{"no item", []byte{2}, nil, api.ErrStack},
		{"too dear", bytes.Repeat([]byte{6}, 501), items(yes), api.ErrCost},
		{"not too dear", bytes.Repeat([]byte{6}, 500), items(yes), api.OK},
	} {
		if e := script.Satisfied(c.b, c.witness, env); e != c.want {
			t.Errorf("%s: %d, want %d", c.name, e, c.want)
		}
	}
}

// satisfy checks what satisfies a script, and what does not.
func satisfy(t *testing.T, name string, b []byte, e api.Env, witness [][]byte, want api.Errno) {
	t.Helper()
	if err := script.Satisfied(b, witness, e); err != want {
		t.Errorf("%s: %d, want %d", name, err, want)
	}
}

// P8.7: what satisfies Single, and what does not.
func TestSingleSatisfied(t *testing.T) {
	b := script.Single(number(7))
	s := signed(7, message)
	satisfy(t, "the signature", b, env, items(s), api.OK)
	satisfy(t, "nothing", b, env, nil, api.ErrStack)
	satisfy(t, "an empty signature", b, env, items(nil), api.ErrFalse)
	satisfy(t, "one of another key", b, env, items(signed(8, message)), api.ErrSignature)
	satisfy(t, "one of another message", b, env, items(signed(7, other)), api.ErrSignature)
	satisfy(t, "the signature, and one more item", b, env, items(yes, s), api.ErrStack)
	satisfy(t, "no public key", script.Single(api.U256{}), env, items(s), api.ErrKey)
}

// P8.7: what satisfies Multi, and what does not.
func TestMultiSatisfied(t *testing.T) {
	b, e := script.Multi(2, []api.U256{number(7), number(8), number(9)})
	if e != api.OK {
		t.Fatal(e)
	}
	s, u, v := signed(7, message), signed(8, message), signed(9, message)
	satisfy(t, "the first two", b, env, items(s, u, nil), api.OK)
	satisfy(t, "the last two", b, env, items(nil, u, v), api.OK)
	satisfy(t, "the outer two", b, env, items(s, nil, v), api.OK)
	satisfy(t, "all of them", b, env, items(s, u, v), api.OK)
	satisfy(t, "one", b, env, items(nil, nil, v), api.ErrFalse)
	satisfy(t, "none", b, env, items(nil, nil, nil), api.ErrFalse)
	satisfy(t, "two without the empty one", b, env, items(s, u), api.ErrStack)
	satisfy(t, "twice the same", b, env, items(s, s, nil), api.ErrSignature)
	satisfy(t, "in another order", b, env, items(u, s, nil), api.ErrSignature)
	satisfy(t, "one more item", b, env, items(nil, s, u, nil), api.ErrStack)
	most, e := script.Multi(1, slices.Repeat([]api.U256{number(7)}, 15))
	if e != api.OK {
		t.Fatal(e)
	}
	satisfy(t, "the last one of 15", most, env, append(make([][]byte, 14), s), api.OK)
	satisfy(t, "none of 15", most, env, make([][]byte, 15), api.ErrFalse)
}

// P8.7: what satisfies After and Older, and what does not.
func TestLocksSatisfied(t *testing.T) {
	s := items(signed(7, message))
	rest := script.Single(number(7))
	for _, n := range []uint32{0, 1, 255, 256, 100000, math.MaxUint32} {
		at, before := api.Env{Message: message, Height: int(n), Age: -1}, api.Env{Message: message, Height: int(n) - 1, Age: math.MaxInt}
		satisfy(t, "at the height", script.After(n, rest), at, s, api.OK)
		satisfy(t, "before the height", script.After(n, rest), before, s, api.ErrLock)
		satisfy(t, "at the height without signature", script.After(n, rest), at, items(nil), api.ErrFalse)
		at, before = api.Env{Message: message, Height: -1, Age: int(n)}, api.Env{Message: message, Height: math.MaxInt, Age: int(n) - 1}
		satisfy(t, "at the age", script.Older(n, rest), at, s, api.OK)
		satisfy(t, "before the age", script.Older(n, rest), before, s, api.ErrLock)
		satisfy(t, "at the age without signature", script.Older(n, rest), at, items(nil), api.ErrFalse)
	}
	both := script.After(900, script.Older(9, rest))
	satisfy(t, "both open", both, env, s, api.OK)
	satisfy(t, "one closed", both, api.Env{Message: message, Height: 1000, Age: 8}, s, api.ErrLock)
	satisfy(t, "the other closed", both, api.Env{Message: message, Height: 899, Age: 10}, s, api.ErrLock)
}

// P8.7: what satisfies Hashed, and what does not.
func TestHashedSatisfied(t *testing.T) {
	s := signed(7, message)
	b := script.Hashed(sha.Sum([]byte("secret")), script.Single(number(7)))
	satisfy(t, "the preimage", b, env, items(s, []byte("secret")), api.OK)
	satisfy(t, "another item", b, env, items(s, []byte("secreT")), api.ErrFalse)
	satisfy(t, "an empty item", b, env, items(s, nil), api.ErrFalse)
	satisfy(t, "no preimage", b, env, items(s), api.ErrFalse)
	satisfy(t, "nothing", b, env, nil, api.ErrStack)
	satisfy(t, "the preimage below", b, env, items([]byte("secret"), s), api.ErrFalse)
	satisfy(t, "the preimage and an empty signature", b, env, items(nil, []byte("secret")), api.ErrFalse)
	satisfy(t, "of the empty item", script.Hashed(sha.Sum(nil), script.Single(number(7))), env, items(s, nil), api.OK)
}

// P8.7: what satisfies Either, and what does not.
func TestEitherSatisfied(t *testing.T) {
	s, u := signed(7, message), signed(8, message)
	b := script.Either(script.Single(number(7)), script.Older(20, script.Single(number(8))))
	later := api.Env{Message: message, Height: 1000, Age: 20}
	satisfy(t, "the first", b, env, items(s, yes), api.OK)
	satisfy(t, "the first with another true item", b, env, items(s, []byte{0, 9}), api.OK)
	satisfy(t, "the second", b, later, items(u, nil), api.OK)
	satisfy(t, "the second with zeros", b, later, items(u, []byte{0}), api.OK)
	satisfy(t, "the second, too early", b, env, items(u, nil), api.ErrLock)
	satisfy(t, "the first on the second", b, later, items(s, nil), api.ErrSignature)
	satisfy(t, "the second on the first", b, later, items(u, yes), api.ErrSignature)
	satisfy(t, "no choice", b, later, nil, api.ErrStack)
	satisfy(t, "only a choice", b, later, items(yes), api.ErrStack)
	nest := script.Either(script.Either(script.Single(number(7)), []byte{17}), script.Either(script.Single(number(8)), []byte{3}))
	satisfy(t, "the first of the first", nest, env, items(s, yes, yes), api.OK)
	satisfy(t, "the second of the first", nest, env, items(s, nil, yes), api.ErrFalse)
	satisfy(t, "the first of the second", nest, env, items(u, yes, nil), api.OK)
	satisfy(t, "the second of the second", nest, env, items(yes, u, nil, nil), api.OK)
}

// Rules: nothing is written to an argument nor behind its end, and results share no memory with it nor with each other.
func TestRunKeepsArguments(t *testing.T) {
	item, itemKept := behind([]byte{1, 2, 3, 4})
	b, bKept := behind([]byte{1, 2, 8, 9, 2, 4, 3, 4, 2, 1, 1, 5})
	whole := items(item, item, yes, []byte{77})
	stack := whole[:2]
	out, _, e := script.Run(b, stack, env)
	if e != api.OK || len(out) != 5 {
		t.Fatalf("Run = %v, %d", out, e)
	}
	for i := range out {
		kept := make([][]byte, len(out))
		for j := range out {
			kept[j] = slices.Clone(out[j])
		}
		for j := range out[i] {
			out[i][j] ^= 0xff
		}
		tail := out[i][len(out[i]):cap(out[i])]
		for j := range tail {
			tail[j] ^= 0xff
		}
		for j := range out {
			if j != i && !bytes.Equal(out[j], kept[j]) {
				t.Errorf("the items %d and %d share memory", i, j)
			}
		}
		out[i] = kept[i]
	}
	_ = append(out, []byte{99})
	if !itemKept() || !bKept() || len(stack) != 2 || !bytes.Equal(whole[2], []byte{1}) || !bytes.Equal(whole[3], []byte{77}) {
		t.Error("Run changes its arguments")
	}
	if out, _, _ = script.Run(nil, whole, env); &out[0] == &whole[0] {
		t.Error("Run returns its argument")
	}
	witness := items(item, []byte{8})
	script.Satisfied([]byte{3, 3, 1, 1, 1}, witness, env)
	if !itemKept() || !bytes.Equal(witness[0], item) || !bytes.Equal(witness[1], []byte{8}) {
		t.Error("Satisfied changes its arguments")
	}
}

// model runs operations by another method: it finds the parts of each OpIf and runs the one that is chosen by recursion.
type model struct {
	stack [][]byte
	cost  int
	e     api.Env
}

// parts returns the indices of the OpElse (-1: none) and the OpEnd of the OpIf at place 0.
func parts(l []api.Op) (int, int) {
	depth, middle := 0, -1
	for i, o := range l {
		switch {
		case o.Code == api.OpIf:
			depth++
		case o.Code == api.OpElse && depth == 1:
			middle = i
		case o.Code == api.OpEnd:
			if depth--; depth == 0 {
				return middle, i
			}
		}
	}
	return middle, -1
}

// wellNested looks for the words of a grammar: operations, if operations end, if operations else operations end.
func wellNested(l []api.Op) bool {
	for len(l) > 0 {
		switch l[0].Code {
		case api.OpElse, api.OpEnd:
			return false
		case api.OpIf:
			middle, end := parts(l)
			if end < 0 {
				return false
			}
			if middle < 0 {
				middle = end
			}
			if !wellNested(l[1:middle]) || middle < end && !wellNested(l[middle+1:end]) {
				return false
			}
			l = l[end:]
		}
		l = l[1:]
	}
	return true
}

func (m *model) pay(n int) {
	if m.cost += n; m.cost > 500 {
		panic(api.ErrCost)
	}
}

func (m *model) take() []byte {
	if len(m.stack) == 0 {
		panic(api.ErrStack)
	}
	x := m.stack[len(m.stack)-1]
	m.stack = slices.Clone(m.stack[:len(m.stack)-1])
	return x
}

func (m *model) put(x []byte) {
	if len(m.stack) == 64 {
		panic(api.ErrLimit)
	}
	m.stack = append(slices.Clone(m.stack), x)
}

func isTrue(x []byte) bool { return !bytes.Equal(x, make([]byte, len(x))) }

func flag(b bool) []byte {
	if b {
		return []byte{1}
	}
	return nil
}

// all runs operations.
func (m *model) all(l []api.Op) {
	for len(l) > 0 {
		if l[0].Code != api.OpIf {
			m.one(l[0])
			l = l[1:]
			continue
		}
		m.pay(1)
		chosen := isTrue(m.take())
		middle, end := parts(l)
		if middle < 0 {
			if chosen {
				m.all(l[1:end])
			}
		} else {
			if chosen {
				m.all(l[1:middle])
			}
			m.pay(1)
			if !chosen {
				m.all(l[middle+1 : end])
			}
		}
		m.pay(1)
		l = l[end+1:]
	}
}

// one runs an operation.
func (m *model) one(o api.Op) {
	m.pay(map[int]int{api.OpHash: 6}[o.Code] + map[bool]int{true: 1}[o.Code != api.OpHash])
	switch o.Code {
	case api.OpPush:
		m.put(o.Data)
	case api.OpDup:
		x := m.take()
		m.put(x)
		m.put(x)
	case api.OpDrop:
		m.take()
	case api.OpSwap:
		x, y := m.take(), m.take()
		m.put(x)
		m.put(y)
	case api.OpEqual:
		x, y := m.take(), m.take()
		m.put(flag(string(x) == string(y)))
	case api.OpNot:
		m.put(flag(!isTrue(m.take())))
	case api.OpVerify:
		if !isTrue(m.take()) {
			panic(api.ErrFalse)
		}
	case api.OpHash:
		h := sha256.Sum256(m.take())
		m.put(h[:])
	case api.OpSize:
		x := m.take()
		m.put(x)
		m.put(bytes.TrimRight([]byte{byte(len(x)), byte(len(x) >> 8)}, "\x00"))
	case api.OpAfter, api.OpOlder:
		x := m.take()
		m.put(x)
		if len(x) > 4 || len(x) > 0 && x[len(x)-1] == 0 {
			panic(api.ErrItem)
		}
		n := 0
		for i := len(x) - 1; i >= 0; i-- {
			n = n*256 + int(x[i])
		}
		if o.Code == api.OpAfter && n > m.e.Height || o.Code == api.OpOlder && n > m.e.Age {
			panic(api.ErrLock)
		}
	case api.OpFail:
		panic(api.ErrFalse)
	}
}

// modelled returns what Run must return for operations without signatures, on a stack that fits.
func modelled(l []api.Op, stack [][]byte, e api.Env) (out [][]byte, cost int, err api.Errno) {
	if !wellNested(l) {
		return nil, 0, api.ErrIf
	}
	m := &model{stack: stack, e: e}
	defer func() {
		if r := recover(); r != nil {
			out, cost, err = nil, 0, r.(api.Errno)
		}
	}()
	m.all(l)
	return m.stack, m.cost, api.OK
}

// against compares Run with the model.
func against(t *testing.T, l []api.Op, stack [][]byte, e api.Env) api.Errno {
	t.Helper()
	b := assemble(t, l...)
	out, cost, err := script.Run(b, stack, e)
	wantOut, wantCost, wantErr := modelled(l, stack, e)
	if !sameStack(out, wantOut) || cost != wantCost || err != wantErr {
		t.Fatalf("%q on %v = %v, %d, %d, want %v, %d, %d", script.Text(b), stack, out, cost, err, wantOut, wantCost, wantErr)
	}
	return err
}

// P8.5: all scripts of up to seven operations of those that branch and two that show what was done.
func TestRunAllBranches(t *testing.T) {
	kinds := []api.Op{op(api.OpIf), op(api.OpElse), op(api.OpEnd), op(api.OpNot), op(api.OpSize)}
	stacks := [][][]byte{items(nil, nil, nil), items(yes, nil, yes), items(nil, yes, nil)}
	var visit func(l []api.Op)
	visit = func(l []api.Op) {
		for _, stack := range stacks {
			against(t, l, stack, env)
		}
		if len(l) == 7 {
			return
		}
		for _, o := range kinds {
			visit(append(slices.Clone(l), o))
		}
	}
	visit(nil)
}

// P8.5: random scripts without signatures are run as the model runs them.
func TestRunRandom(t *testing.T) {
	r := rand.New(rand.NewPCG(8, 5))
	seen := map[api.Errno]int{}
	for range 40000 {
		var l []api.Op
		for range r.IntN(14) {
			o := randomOp(r)
			for o.Code == api.OpSig || o.Code == api.OpMulti {
				o = randomOp(r)
			}
			if o.Code == api.OpPush || o.Code == api.OpFail && r.IntN(4) > 0 {
				o = api.Op{Code: api.OpPush, Data: script.Item(uint32(r.IntN(12)))}
			}
			l = append(l, o)
			if o.Code == api.OpIf && r.IntN(2) == 0 {
				l = append(l, op(api.OpNot), op(api.OpElse), op(api.OpEnd))
			}
		}
		var stack [][]byte
		for range r.IntN(5) {
			stack = append(stack, script.Item(uint32(r.IntN(3))))
		}
		seen[against(t, l, stack, api.Env{Height: r.IntN(12) - 2, Age: r.IntN(12) - 2})]++
	}
	for _, e := range []api.Errno{api.OK, api.ErrStack, api.ErrIf, api.ErrFalse, api.ErrLock, api.ErrItem} {
		if seen[e] < 20 {
			t.Errorf("%d was returned %d times", e, seen[e])
		}
	}
}

// Consequences: with another message only OpSig and OpMulti can have another result; the same arguments have the same result.
func TestOtherMessage(t *testing.T) {
	r := rand.New(rand.NewPCG(8, 6))
	for range 5000 {
		var l []api.Op
		for range r.IntN(10) {
			o := randomOp(r)
			for o.Code == api.OpSig || o.Code == api.OpMulti {
				o = randomOp(r)
			}
			l = append(l, o)
		}
		b := assemble(t, l...)
		stack := many(5)
		e := api.Env{Message: message, Height: 3, Age: 3}
		out, cost, err := script.Run(b, stack, e)
		for _, m := range []api.Hash{message, other} {
			e.Message = m
			again, costAgain, errAgain := script.Run(b, stack, e)
			if !sameStack(out, again) || cost != costAgain || err != errAgain {
				t.Fatalf("%q with another message", script.Text(b))
			}
		}
	}
}

// Consequences: with a greater Height and Age every script that is satisfied stays satisfied.
func TestStaysSatisfied(t *testing.T) {
	r := rand.New(rand.NewPCG(8, 7))
	satisfied := 0
	for range 30000 {
		l := []api.Op{}
		for range 1 + r.IntN(8) {
			switch r.IntN(8) {
			case 0, 1:
				l = append(l, op(api.OpAfter))
			case 2, 3:
				l = append(l, op(api.OpOlder))
			case 4:
				l = append(l, op(api.OpIf), op(api.OpAfter), op(api.OpElse), op(api.OpOlder), op(api.OpEnd))
			case 5:
				l = append(l, op(api.OpDrop))
			case 6:
				l = append(l, op(api.OpNot))
			case 7:
				l = append(l, api.Op{Code: api.OpPush, Data: script.Item(uint32(r.IntN(20)))})
			}
		}
		b := assemble(t, l...)
		witness := items(script.Item(uint32(r.IntN(20))), script.Item(uint32(r.IntN(20))))
		e := api.Env{Height: r.IntN(20), Age: r.IntN(20)}
		if script.Satisfied(b, witness, e) != api.OK {
			continue
		}
		satisfied++
		for _, more := range []api.Env{{Height: e.Height + 1, Age: e.Age}, {Height: e.Height, Age: e.Age + 1}, {Height: e.Height + r.IntN(100), Age: e.Age + r.IntN(100)}, {Height: math.MaxInt, Age: math.MaxInt}} {
			if err := script.Satisfied(b, witness, more); err != api.OK {
				t.Fatalf("%q is satisfied in %v, but %d in %v", script.Text(b), e, err, more)
			}
		}
	}
	if satisfied < 500 {
		t.Errorf("only %d were satisfied", satisfied)
	}
}

// P1: no bytes and no stack make Run panic; what it returns with an error is zero.
func FuzzRun(f *testing.F) {
	f.Add([]byte{2, 5}, []byte{2, 7, 7}, 5, 5)
	f.Add(script.Single(number(3)), append([]byte{64}, signed(3, message)...), 1000, 10)
	f.Add(script.Either(script.After(5, []byte{8}), script.Older(6, []byte{6})), []byte{1, 1, 0}, 5, 6)
	f.Fuzz(func(t *testing.T, b, rest []byte, height, age int) {
		var stack [][]byte
		for len(rest) > 0 {
			n := min(int(rest[0]), len(rest)-1)
			stack, rest = append(stack, rest[1:1+n]), rest[1+n:]
		}
		e := api.Env{Message: message, Height: height, Age: age}
		out, cost, err := script.Run(b, stack, e)
		if err != api.OK && (len(out) != 0 || cost != 0) || cost < 0 || cost > api.MaxCost || len(out) > api.MaxStack {
			t.Fatalf("Run(%v, %v) = %v, %d, %d", b, stack, out, cost, err)
		}
		l, parsed := script.Parse(b)
		if parsed != api.OK {
			if err != parsed || script.Text(b) != "" {
				t.Fatalf("Run(%v) = %d, Parse %d", b, err, parsed)
			}
			return
		}
		if back, e := script.Assemble(l); !bytes.Equal(back, b) || e != api.OK {
			t.Fatalf("Assemble(Parse(%v)) = %v, %d", b, back, e)
		}
		signs := slices.ContainsFunc(l, func(o api.Op) bool { return o.Code == api.OpSig || o.Code == api.OpMulti })
		long := slices.ContainsFunc(stack, func(x []byte) bool { return len(x) > 520 })
		if !signs && !long && len(stack) <= 64 {
			against(t, l, stack, e)
		}
	})
}

// BenchmarkSatisfied measures a script of three signatures.
func BenchmarkSatisfied(b *testing.B) {
	s, _ := script.Multi(3, []api.U256{number(7), number(8), number(9)})
	witness := items(signed(7, message), signed(8, message), signed(9, message))
	for b.Loop() {
		script.Satisfied(s, witness, env)
	}
}
