package script_test

import (
	"bytes"
	"math"
	"math/rand/v2"
	"reflect"
	"slices"
	"strconv"
	"strings"
	"testing"

	"lightclient/api"
	"lightclient/script"
	"lightclient/sha"
	"lightclient/sign"
	"lightclient/wide"
)

// bare are the operations with nothing behind their Code, with their texts.
var bare = []struct {
	code int
	text string
}{
	{2, "dup"}, {3, "drop"}, {4, "swap"}, {5, "equal"}, {6, "not"}, {7, "verify"}, {8, "hash"}, {9, "size"}, {10, "sig"},
	{12, "after"}, {13, "older"}, {14, "if"}, {15, "else"}, {16, "end"}, {17, "fail"},
}

// push returns the operation that pushes n bytes x.
func push(n int, x byte) api.Op {
	return api.Op{Code: api.OpPush, Data: bytes.Repeat([]byte{x}, n)}
}

// op returns an operation with a Code alone.
func op(code int) api.Op { return api.Op{Code: code} }

// multi returns an OpMulti.
func multi(m, n int) api.Op { return api.Op{Code: api.OpMulti, M: m, N: n} }

// repeat returns n times the same operation.
func repeat(n int, o api.Op) []api.Op { return slices.Repeat([]api.Op{o}, n) }

// join returns lists of operations, one behind the other.
func join(l ...[]api.Op) []api.Op { return slices.Concat(l...) }

// same reports whether two lists have the same operations; nil and empty Data are the same.
func same(a, b []api.Op) bool {
	return slices.EqualFunc(a, b, func(x, y api.Op) bool {
		return x.Code == y.Code && x.M == y.M && x.N == y.N && bytes.Equal(x.Data, y.Data)
	})
}

// assemble returns the bytes of operations that have no error.
func assemble(t testing.TB, l ...api.Op) []byte {
	t.Helper()
	b, e := script.Assemble(l)
	if e != api.OK {
		t.Fatalf("Assemble(%v) = %d", l, e)
	}
	return b
}

// randomOp returns an operation without error.
func randomOp(r *rand.Rand) api.Op {
	switch code := 1 + r.IntN(17); code {
	case api.OpPush:
		data := make([]byte, r.IntN(40))
		for i := range data {
			data[i] = byte(r.Uint32())
		}
		return api.Op{Code: code, Data: data}
	case api.OpMulti:
		n := 1 + r.IntN(api.MaxKeys)
		return multi(1+r.IntN(n), n)
	default:
		return op(code)
	}
}

// behind returns a copy of b with bytes behind its end that must stay.
func behind(b []byte) ([]byte, func() bool) {
	whole := append(slices.Clone(b), 0xaa, 0xbb, 0xcc, 0xdd)
	kept := slices.Clone(whole)
	return whole[:len(b)], func() bool { return bytes.Equal(whole, kept) }
}

// P8.1: the bytes of each operation.
func TestAssembleOperations(t *testing.T) {
	for _, o := range bare {
		if b, e := script.Assemble([]api.Op{op(o.code)}); !bytes.Equal(b, []byte{byte(o.code)}) || e != api.OK {
			t.Errorf("Assemble of %s = %v, %d", o.text, b, e)
		}
	}
	for n := range 256 {
		b, e := script.Assemble([]api.Op{push(n, 7)})
		if want := append([]byte{1, byte(n)}, bytes.Repeat([]byte{7}, n)...); !bytes.Equal(b, want) || e != api.OK {
			t.Errorf("Assemble of a push of %d bytes = %v, %d", n, b, e)
		}
	}
	for n := 1; n <= 15; n++ {
		for m := 1; m <= n; m++ {
			if b, e := script.Assemble([]api.Op{multi(m, n)}); !bytes.Equal(b, []byte{11, byte(m), byte(n)}) || e != api.OK {
				t.Errorf("Assemble of multi/%d/%d = %v, %d", m, n, b, e)
			}
		}
	}
}

// P8.1: the bytes of several operations stand in their order; no operations have no bytes.
func TestAssembleSeveral(t *testing.T) {
	l := []api.Op{op(api.OpIf), {Code: api.OpPush, Data: []byte{9, 8}}, {Code: api.OpPush, Data: []byte{}}, op(api.OpElse), multi(2, 3), op(api.OpEnd)}
	if b, e := script.Assemble(l); !bytes.Equal(b, []byte{14, 1, 2, 9, 8, 1, 0, 15, 11, 2, 3, 16}) || e != api.OK {
		t.Errorf("Assemble = %v, %d", b, e)
	}
	for _, l := range [][]api.Op{nil, {}} {
		if b, e := script.Assemble(l); len(b) != 0 || e != api.OK {
			t.Errorf("Assemble of nothing = %v, %d", b, e)
		}
	}
}

// P8.1: the errors of one operation, and which comes first where two apply.
func TestAssembleErrors(t *testing.T) {
	long := bytes.Repeat([]byte{1}, 256)
	one := []byte{0}
	for _, c := range []struct {
		name string
		o    api.Op
		want api.Errno
	}{
		{"Code 0", op(0), api.ErrOp},
		{"Code 18", op(18), api.ErrOp},
		{"Code -1", op(-1), api.ErrOp},
		{"Code 257, whose byte is a push", op(257), api.ErrOp},
		{"Code 258, whose byte is dup", op(258), api.ErrOp},
		{"the least Code", op(math.MinInt), api.ErrOp},
		{"the greatest Code", op(math.MaxInt), api.ErrOp},
		{"Code -255, whose byte is a push", op(-255), api.ErrOp},
		{"no operation with Data, M and N", api.Op{Code: 18, Data: long, M: 1, N: 1}, api.ErrOp},
		{"dup with Data", api.Op{Code: api.OpDup, Data: one}, api.ErrInvalid},
		{"fail with Data", api.Op{Code: api.OpFail, Data: one}, api.ErrInvalid},
		{"multi with Data", api.Op{Code: api.OpMulti, Data: one, M: 1, N: 1}, api.ErrInvalid},
		{"dup with M", api.Op{Code: api.OpDup, M: 1}, api.ErrInvalid},
		{"dup with N", api.Op{Code: api.OpDup, N: 1}, api.ErrInvalid},
		{"dup with a negative M", api.Op{Code: api.OpDup, M: -1}, api.ErrInvalid},
		{"dup with an N whose byte is 0", api.Op{Code: api.OpDup, N: 256}, api.ErrInvalid},
		{"push with M", api.Op{Code: api.OpPush, M: 1}, api.ErrInvalid},
		{"push with N", api.Op{Code: api.OpPush, N: 1}, api.ErrInvalid},
		{"push with M and N that cancel out", api.Op{Code: api.OpPush, M: 1, N: -1}, api.ErrInvalid},
		{"dup with too much Data", api.Op{Code: api.OpDup, Data: long}, api.ErrInvalid},
		{"push with too much Data and M", api.Op{Code: api.OpPush, Data: long, M: 1}, api.ErrInvalid},
		{"multi with too much Data", api.Op{Code: api.OpMulti, Data: long, M: 1, N: 1}, api.ErrInvalid},
		{"multi with Data and no keys", api.Op{Code: api.OpMulti, Data: one}, api.ErrInvalid},
		{"push of 256 bytes", api.Op{Code: api.OpPush, Data: long}, api.ErrLimit},
		{"push of so many bytes that the script is too long, too", push(600, 1), api.ErrLimit},
		{"multi with N 0", multi(0, 0), api.ErrRange},
		{"multi with N 0 and M 1", multi(1, 0), api.ErrRange},
		{"multi with N -1", multi(-1, -1), api.ErrRange},
		{"multi with N 16", multi(1, 16), api.ErrRange},
		{"multi with M 16", multi(16, 16), api.ErrRange},
		{"multi with N 257", multi(1, 257), api.ErrRange},
		{"multi with M 0", multi(0, 1), api.ErrRange},
		{"multi with M -1", multi(-1, 1), api.ErrRange},
		{"multi with M N + 1", multi(3, 2), api.ErrRange},
		{"multi with M 257", multi(257, 15), api.ErrRange},
		{"multi with the greatest numbers", multi(math.MaxInt, math.MaxInt), api.ErrRange},
		{"multi with the least numbers", multi(math.MinInt, math.MinInt), api.ErrRange},
	} {
		for _, l := range [][]api.Op{
			{c.o},
			{op(api.OpDup), c.o},
			{c.o, op(0)},
			{c.o, {Code: api.OpDup, Data: one}},
			{c.o, {Code: api.OpPush, Data: long}},
			{c.o, multi(0, 0)},
			append(repeat(600, op(api.OpDup)), c.o),
			append([]api.Op{c.o}, repeat(600, op(api.OpDup))...),
		} {
			if b, e := script.Assemble(l); len(b) != 0 || e != c.want {
				t.Errorf("%s: Assemble = %v, %d, want %d", c.name, b, e, c.want)
			}
		}
	}
}

// P8.1: no Code but those of the operations has bytes.
func TestAssembleCodes(t *testing.T) {
	for code := -600; code <= 600; code++ {
		want := api.ErrOp
		switch {
		case code == api.OpMulti:
			want = api.ErrRange
		case code >= 1 && code <= 17:
			want = api.OK
		}
		if _, e := script.Assemble([]api.Op{op(code)}); e != want {
			t.Errorf("Assemble of Code %d = %d", code, e)
		}
	}
}

// P8.1: MaxScript bytes are a script, one more are not, in whatever operations they are.
func TestAssembleLength(t *testing.T) {
	for _, c := range []struct {
		l    []api.Op
		most bool
	}{
		{repeat(520, op(api.OpDup)), true},
		{repeat(521, op(api.OpDup)), false},
		{repeat(100000, op(api.OpDup)), false},
		{repeat(260, push(0, 0)), true},
		{repeat(261, push(0, 0)), false},
		{join(repeat(2, push(255, 1)), repeat(6, op(api.OpDup))), true},
		{join(repeat(2, push(255, 1)), repeat(7, op(api.OpDup))), false},
		{join(repeat(2, push(255, 1)), repeat(2, multi(1, 1))), true},
		{join(repeat(2, push(255, 1)), repeat(2, multi(1, 1)), repeat(1, op(api.OpDup))), false},
		{repeat(173, multi(1, 1)), true},
		{repeat(174, multi(1, 1)), false},
		{repeat(3, push(255, 1)), false},
	} {
		b, e := script.Assemble(c.l)
		if c.most && (len(b) < 519 || e != api.OK) || !c.most && (len(b) != 0 || e != api.ErrLimit) {
			t.Errorf("Assemble of %d operations = %d bytes, %d", len(c.l), len(b), e)
		}
	}
}

// P8.2: the operations of scripts that are written out.
func TestParseWrittenOut(t *testing.T) {
	for _, c := range []struct {
		b    []byte
		want []api.Op
	}{
		{nil, nil},
		{[]byte{}, nil},
		{[]byte{1, 0}, []api.Op{push(0, 0)}},
		{[]byte{1, 1, 0}, []api.Op{push(1, 0)}},
		{[]byte{1, 2, 17, 18}, []api.Op{{Code: 1, Data: []byte{17, 18}}}},
		{[]byte{1, 1, 1, 1, 1, 2}, []api.Op{push(1, 1), push(1, 2)}},
		{[]byte{11, 1, 1}, []api.Op{multi(1, 1)}},
		{[]byte{11, 15, 15, 11, 1, 15}, []api.Op{multi(15, 15), multi(1, 15)}},
		{[]byte{2, 3, 4, 5, 6, 7, 8, 9, 10}, []api.Op{op(2), op(3), op(4), op(5), op(6), op(7), op(8), op(9), op(10)}},
		{[]byte{12, 13, 14, 15, 16, 17}, []api.Op{op(12), op(13), op(14), op(15), op(16), op(17)}},
		{append([]byte{1, 255}, bytes.Repeat([]byte{18}, 255)...), []api.Op{push(255, 18)}},
	} {
		if l, e := script.Parse(c.b); !same(l, c.want) || e != api.OK {
			t.Errorf("Parse(%v) = %v, %d", c.b, l, e)
		}
	}
}

// P8.2: the errors, of which the first one on the way is returned.
func TestParseErrors(t *testing.T) {
	for _, c := range []struct {
		b    []byte
		want api.Errno
	}{
		{[]byte{0}, api.ErrOp},
		{[]byte{18}, api.ErrOp},
		{[]byte{255}, api.ErrOp},
		{[]byte{2, 0}, api.ErrOp},
		{[]byte{1, 1, 0, 0}, api.ErrOp},
		{[]byte{1}, api.ErrShort},
		{[]byte{1, 1}, api.ErrShort},
		{[]byte{1, 2, 0}, api.ErrShort},
		{[]byte{1, 255}, api.ErrShort},
		{append([]byte{1, 255}, bytes.Repeat([]byte{0}, 254)...), api.ErrShort},
		{[]byte{11}, api.ErrShort},
		{[]byte{11, 1}, api.ErrShort},
		{[]byte{11, 0}, api.ErrShort},
		{[]byte{11, 255}, api.ErrShort},
		{[]byte{11, 0, 0}, api.ErrRange},
		{[]byte{11, 0, 1}, api.ErrRange},
		{[]byte{11, 1, 0}, api.ErrRange},
		{[]byte{11, 2, 1}, api.ErrRange},
		{[]byte{11, 1, 16}, api.ErrRange},
		{[]byte{11, 16, 16}, api.ErrRange},
		{[]byte{11, 255, 255}, api.ErrRange},
		{[]byte{0, 1}, api.ErrOp},
		{[]byte{0, 11, 0, 0}, api.ErrOp},
		{[]byte{11, 0, 0, 0}, api.ErrRange},
		{[]byte{11, 0, 0, 1}, api.ErrRange},
		{[]byte{1, 3, 11, 0}, api.ErrShort},
	} {
		if l, e := script.Parse(c.b); len(l) != 0 || e != c.want {
			t.Errorf("Parse(%v) = %v, %d, want %d", c.b, l, e, c.want)
		}
	}
}

// P8.2: each byte alone.
func TestParseBytes(t *testing.T) {
	for x := range 256 {
		want := api.OK
		switch {
		case x == 1 || x == 11:
			want = api.ErrShort
		case x == 0 || x > 17:
			want = api.ErrOp
		}
		if _, e := script.Parse([]byte{byte(x)}); e != want {
			t.Errorf("Parse of the byte %d = %d", x, e)
		}
	}
}

// P8.2: each M with each N.
func TestParseCounts(t *testing.T) {
	for m := range 256 {
		for n := range 256 {
			want := api.ErrRange
			if m >= 1 && m <= n && n <= 15 {
				want = api.OK
			}
			if _, e := script.Parse([]byte{11, byte(m), byte(n)}); e != want {
				t.Errorf("Parse of M %d and N %d = %d", m, n, e)
			}
		}
	}
}

// P8.2: a script that is cut off at each place.
func TestParseCut(t *testing.T) {
	b := []byte{14, 1, 3, 18, 0, 11, 2, 15, 11, 2, 3, 1, 0, 16}
	whole := map[int]int{0: 0, 1: 1, 6: 2, 7: 3, 8: 4, 11: 5, 13: 6, 14: 7}
	for n := range len(b) + 1 {
		l, e := script.Parse(b[:n])
		if count, ok := whole[n]; ok && (len(l) != count || e != api.OK) || !ok && (len(l) != 0 || e != api.ErrShort) {
			t.Errorf("Parse of the first %d bytes = %v, %d", n, l, e)
		}
	}
}

// P8.2: MaxScript bytes and one more, which is looked at before the operations are.
func TestParseLength(t *testing.T) {
	for _, c := range []struct {
		b    []byte
		want api.Errno
	}{
		{bytes.Repeat([]byte{2}, 520), api.OK},
		{bytes.Repeat([]byte{2}, 521), api.ErrLimit},
		{bytes.Repeat([]byte{0}, 520), api.ErrOp},
		{bytes.Repeat([]byte{0}, 521), api.ErrLimit},
		{bytes.Repeat([]byte{11}, 520), api.ErrShort}, // 11, 11, 11 is a whole operation
		{bytes.Repeat([]byte{11}, 521), api.ErrLimit},
		{make([]byte, 1<<20), api.ErrLimit},
	} {
		if l, e := script.Parse(c.b); e != c.want || e != api.OK && len(l) != 0 {
			t.Errorf("Parse of %d bytes %d = %d operations, %d, want %d", len(c.b), c.b[0], len(l), e, c.want)
		}
	}
}

// Consequences: Parse(Assemble(l)) is l, and Assemble(Parse(b)) is b.
func TestThereAndBack(t *testing.T) {
	r := rand.New(rand.NewPCG(8, 1))
	for range 3000 {
		var l []api.Op
		for range r.IntN(20) {
			l = append(l, randomOp(r))
		}
		b, e := script.Assemble(l)
		if e == api.ErrLimit {
			continue
		}
		back, e := script.Parse(b)
		if !same(back, l) || e != api.OK {
			t.Fatalf("Parse(Assemble(%v)) = %v, %d", l, back, e)
		}
	}
	parsed := 0
	for range 200000 {
		b := make([]byte, r.IntN(10))
		for i := range b {
			b[i] = byte(r.IntN(19))
		}
		l, e := script.Parse(b)
		if e != api.OK {
			continue
		}
		parsed++
		if back, e := script.Assemble(l); !bytes.Equal(back, b) || e != api.OK {
			t.Fatalf("Assemble(Parse(%v)) = %v, %d", b, back, e)
		}
	}
	if parsed < 10000 {
		t.Errorf("only %d scripts", parsed)
	}
}

// P8.3: the text of each operation.
func TestTextOperations(t *testing.T) {
	for _, o := range bare {
		if s := script.Text([]byte{byte(o.code)}); s != o.text {
			t.Errorf("the text of %d = %q", o.code, s)
		}
	}
	for _, c := range []struct {
		b    []byte
		want string
	}{
		{nil, ""},
		{[]byte{1, 0}, "<>"},
		{[]byte{1, 1, 0}, "<00>"},
		{[]byte{1, 4, 0x01, 0xab, 0xf0, 0x9f}, "<01abf09f>"},
		{append([]byte{1, 255}, bytes.Repeat([]byte{0x5c}, 255)...), "<" + strings.Repeat("5c", 255) + ">"},
		{[]byte{11, 1, 1}, "multi/1/1"},
		{[]byte{11, 9, 10}, "multi/9/10"},
		{[]byte{11, 15, 15}, "multi/15/15"},
	} {
		if s := script.Text(c.b); s != c.want {
			t.Errorf("Text(%v) = %q, want %q", c.b, s, c.want)
		}
	}
}

// P8.3: the texts of several operations are separated by single spaces.
func TestTextSeveral(t *testing.T) {
	b := []byte{14, 1, 0, 10, 15, 1, 2, 16, 255, 12, 3, 11, 2, 3, 16, 17}
	if s := script.Text(b); s != "if <> sig else <10ff> after drop multi/2/3 end fail" {
		t.Errorf("Text = %q", s)
	}
	if s := script.Text(bytes.Repeat([]byte{2}, 520)); s != strings.TrimSuffix(strings.Repeat("dup ", 520), " ") {
		t.Errorf("the text of the longest script = %q", s)
	}
}

// P8.3: what is no script has no text, also where its first operations have one.
func TestTextErrors(t *testing.T) {
	for _, b := range [][]byte{{0}, {18}, {2, 18}, {1}, {2, 1, 1}, {11, 1}, {2, 11, 2, 1}, {11, 1, 16}, bytes.Repeat([]byte{2}, 521)} {
		if s := script.Text(b); s != "" {
			t.Errorf("Text(%v) = %q", b, s)
		}
	}
}

// P8.4: numbers and their items, written out.
func TestNumbersWrittenOut(t *testing.T) {
	for _, c := range []struct {
		n    uint32
		item []byte
	}{
		{0, nil}, {1, []byte{1}}, {127, []byte{127}}, {128, []byte{128}}, {255, []byte{255}},
		{256, []byte{0, 1}}, {257, []byte{1, 1}}, {65535, []byte{255, 255}},
		{65536, []byte{0, 0, 1}}, {0x00ffffff, []byte{255, 255, 255}},
		{0x01000000, []byte{0, 0, 0, 1}}, {0x04030201, []byte{1, 2, 3, 4}}, {0x80000000, []byte{0, 0, 0, 128}}, {1<<32 - 1, []byte{255, 255, 255, 255}},
	} {
		if b := script.Item(c.n); !bytes.Equal(b, c.item) {
			t.Errorf("Item(%d) = %v", c.n, b)
		}
		if n, e := script.Number(c.item); n != c.n || e != api.OK {
			t.Errorf("Number(%v) = %d, %d", c.item, n, e)
		}
	}
}

// P8.4: items that are no numbers.
func TestNumberErrors(t *testing.T) {
	for _, b := range [][]byte{
		{0}, {1, 0}, {0, 0}, {1, 2, 0}, {255, 255, 255, 0}, {0, 0, 0, 0},
		{1, 2, 3, 4, 5}, {1, 2, 3, 4, 0}, {0, 0, 0, 0, 1}, {0, 0, 0, 0, 0}, bytes.Repeat([]byte{1}, 8), bytes.Repeat([]byte{1}, 520), make([]byte, 1000),
	} {
		if n, e := script.Number(b); n != 0 || e != api.ErrItem {
			t.Errorf("Number(%v) = %d, %d", b, n, e)
		}
	}
	if n, e := script.Number([]byte{}); n != 0 || e != api.OK {
		t.Errorf("Number of an empty item = %d, %d", n, e)
	}
}

// P8.4: each item of up to two bytes is the item of its number, or none.
func TestNumbersAllSmall(t *testing.T) {
	for n := range uint32(1 << 17) {
		if back, e := script.Number(script.Item(n)); back != n || e != api.OK {
			t.Fatalf("Number(Item(%d)) = %d, %d", n, back, e)
		}
	}
	for x := range 256 {
		for y := range 256 {
			b := []byte{byte(x), byte(y)}
			n, e := script.Number(b)
			if y == 0 && e != api.ErrItem || y != 0 && (e != api.OK || !bytes.Equal(script.Item(n), b)) {
				t.Fatalf("Number(%v) = %d, %d", b, n, e)
			}
		}
	}
	r := rand.New(rand.NewPCG(8, 4))
	for range 10000 {
		n := r.Uint32()
		if back, e := script.Number(script.Item(n)); back != n || e != api.OK {
			t.Fatalf("Number(Item(%d)) = %d, %d", n, back, e)
		}
	}
}

// P8.7: the scripts, written out.
func TestScriptsWrittenOut(t *testing.T) {
	p := api.U256{0x0102030405060708, 2, 3, 0xf1f2f3f4f5f6f7f8}
	key := []byte{
		0xf1, 0xf2, 0xf3, 0xf4, 0xf5, 0xf6, 0xf7, 0xf8, 0, 0, 0, 0, 0, 0, 0, 3,
		0, 0, 0, 0, 0, 0, 0, 2, 1, 2, 3, 4, 5, 6, 7, 8,
	}
	pushed := append([]byte{1, 32}, key...)
	h := api.Hash{1, 2, 3, 31: 9}
	multi, e := script.Multi(2, []api.U256{p, {4}, p})
	if e != api.OK {
		t.Fatalf("Multi = %d", e)
	}
	four := slices.Concat([]byte{1, 32}, make([]byte, 31), []byte{4})
	for _, c := range []struct {
		name      string
		got, want []byte
	}{
		{"Single", script.Single(p), append(slices.Clone(pushed), 10)},
		{"Single of 0", script.Single(api.U256{}), slices.Concat([]byte{1, 32}, make([]byte, 32), []byte{10})},
		{"Multi", multi, slices.Concat(pushed, four, pushed, []byte{11, 2, 3})},
		{"After", script.After(256, []byte{2, 200}), []byte{1, 2, 0, 1, 12, 3, 2, 200}},
		{"After 0", script.After(0, []byte{2}), []byte{1, 0, 12, 3, 2}},
		{"After the greatest", script.After(1<<32-1, nil), []byte{1, 4, 255, 255, 255, 255, 12, 3}},
		{"Older", script.Older(255, []byte{0, 2}), []byte{1, 1, 255, 13, 3, 0, 2}},
		{"Older 0", script.Older(0, nil), []byte{1, 0, 13, 3}},
		{"Hashed", script.Hashed(h, []byte{99, 98}), slices.Concat([]byte{8, 1, 32}, h[:], []byte{5, 7, 99, 98})},
		{"Either", script.Either([]byte{1, 99}, []byte{98, 97, 96}), []byte{14, 1, 99, 15, 98, 97, 96, 16}},
		{"Either of nothing", script.Either(nil, []byte{}), []byte{14, 15, 16}},
	} {
		if !bytes.Equal(c.got, c.want) {
			t.Errorf("%s = %v, want %v", c.name, c.got, c.want)
		}
	}
}

// P8.7: what is put in a row may be no script, and as long as it likes.
func TestScriptsDoNotLook(t *testing.T) {
	long := bytes.Repeat([]byte{200}, 5000)
	h := api.Hash{5}
	for _, c := range []struct {
		name      string
		got, want []byte
	}{
		{"After", script.After(7, long), append([]byte{1, 1, 7, 12, 3}, long...)},
		{"Older", script.Older(7, long), append([]byte{1, 1, 7, 13, 3}, long...)},
		{"Hashed", script.Hashed(h, long), slices.Concat([]byte{8, 1, 32, 5}, make([]byte, 31), []byte{5, 7}, long)},
		{"Either", script.Either(long, long), slices.Concat([]byte{14}, long, []byte{15}, long, []byte{16})},
	} {
		if !bytes.Equal(c.got, c.want) {
			t.Errorf("%s of what is no script", c.name)
		}
	}
}

// P8.7: the errors of Multi are those of Assemble.
func TestMultiErrors(t *testing.T) {
	for n := range 40 {
		for m := -2; m < 20; m++ {
			keys := make([]api.U256, n)
			want := api.ErrRange
			if n >= 1 && n <= 15 && m >= 1 && m <= n {
				want = api.OK
			}
			b, e := script.Multi(m, keys)
			if e != want || e != api.OK && len(b) != 0 || e == api.OK && len(b) != 34*n+3 {
				t.Errorf("Multi of %d and %d keys = %d bytes, %d", m, n, len(b), e)
			}
		}
	}
	for _, m := range []int{math.MinInt, math.MaxInt, 257, -255} {
		if b, e := script.Multi(m, make([]api.U256, 3)); len(b) != 0 || e != api.ErrRange {
			t.Errorf("Multi of %d = %v, %d", m, b, e)
		}
	}
	if b, e := script.Multi(1, make([]api.U256, 257)); len(b) != 0 || e != api.ErrRange {
		t.Errorf("Multi of 257 keys = %v, %d", b, e)
	}
	if b, e := script.Multi(1, make([]api.U256, 100000)); len(b) != 0 || e != api.ErrRange {
		t.Errorf("Multi of 100000 keys = %v, %d", b, e)
	}
}

// Rules: nothing is written to an argument nor behind its end.
func TestBytesKeepArguments(t *testing.T) {
	data, kept := behind([]byte{1, 2, 3})
	l := []api.Op{{Code: api.OpPush, Data: data}, op(api.OpDup), multi(1, 2)}
	ops := append(slices.Clone(l), op(api.OpFail))
	b, e := script.Assemble(ops[:3])
	if e != api.OK || !kept() || !reflect.DeepEqual(ops, append(slices.Clone(l), op(api.OpFail))) {
		t.Error("Assemble changes its argument")
	}
	b[2] = 77
	if data[0] != 1 {
		t.Error("the bytes share memory with the operations")
	}
	rest, restKept := behind([]byte{2, 3})
	other, otherKept := behind([]byte{4})
	keys := []api.U256{{1}, {2}, {3}}
	results := [][]byte{script.After(5, rest), script.Older(5, rest), script.Hashed(api.Hash{}, rest), script.Either(rest, other)}
	if _, e := script.Multi(1, keys[:2]); e != api.OK || keys[2] != (api.U256{3}) {
		t.Error("Multi changes its argument")
	}
	for _, r := range results {
		clear(r)
		clear(r[:cap(r)])
	}
	if !restKept() || !otherKept() {
		t.Error("a script changes what it is made of, or shares memory with it")
	}
	whole, wholeKept := behind([]byte{1, 2, 7, 8, 1, 1, 9})
	parsed, _ := script.Parse(whole)
	for _, o := range parsed {
		clear(o.Data)
		clear(o.Data[:cap(o.Data)])
	}
	script.Text(whole)
	script.Number(whole)
	if !wholeKept() {
		t.Error("Parse, Text or Number changes its argument, or shares memory with it")
	}
	item := script.Item(0x01020304)
	clear(item)
	if !bytes.Equal(script.Item(0x01020304), []byte{4, 3, 2, 1}) {
		t.Error("items share memory")
	}
}

// The examples of the chapter.
func TestExamples(t *testing.T) {
	if len(script.Item(0)) != 0 || !bytes.Equal(script.Item(256), []byte{0, 1}) {
		t.Error("Item")
	}
	if _, e := script.Number([]byte{1, 0}); e != api.ErrItem {
		t.Errorf("Number of 1, 0 = %d", e)
	}
	stack, cost, e := script.Run([]byte{api.OpDup, api.OpEqual}, [][]byte{{7, 7}}, api.Env{})
	if len(stack) != 1 || !bytes.Equal(stack[0], []byte{1}) || cost != 2 || e != api.OK {
		t.Errorf("dup equal = %v, %d, %d", stack, cost, e)
	}
	m := sha.Sum([]byte("message"))
	pa, _ := sign.Public(wide.FromUint(11))
	pb, _ := sign.Public(wide.FromUint(12))
	s, _ := sign.Sign(wide.FromUint(12), m)
	either := script.Either(script.Single(pa), script.Single(pb))
	if e := script.Satisfied(either, [][]byte{sign.Encode(s), nil}, api.Env{Message: m}); e != api.OK {
		t.Errorf("Either with a witness for b = %d", e)
	}
	if strconv.Itoa(int(script.Satisfied(either, [][]byte{sign.Encode(s), {1}}, api.Env{Message: m}))) != "61" {
		t.Error("Either with a witness for b, but a true item behind it")
	}
}
