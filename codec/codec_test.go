package codec_test

import (
	"bytes"
	"math"
	"strings"
	"testing"

	"lightclient/api"
	"lightclient/codec"
)

// sizes are the numbers around which the encoding of a size changes, with their only encodings.
var sizes = []struct {
	n uint64
	b []byte
}{
	{0, []byte{0}},
	{1, []byte{1}},
	{252, []byte{252}},
	{253, []byte{253, 253, 0}},
	{254, []byte{253, 254, 0}},
	{255, []byte{253, 255, 0}},
	{256, []byte{253, 0, 1}},
	{1<<16 - 1, []byte{253, 255, 255}},
	{1 << 16, []byte{254, 0, 0, 1, 0}},
	{0x12345678, []byte{254, 0x78, 0x56, 0x34, 0x12}},
	{1<<32 - 1, []byte{254, 255, 255, 255, 255}},
	{1 << 32, []byte{255, 0, 0, 0, 0, 1, 0, 0, 0}},
	{0x0123456789abcdef, []byte{255, 0xef, 0xcd, 0xab, 0x89, 0x67, 0x45, 0x23, 0x01}},
	{math.MaxUint64, []byte{255, 255, 255, 255, 255, 255, 255, 255, 255}},
}

// counted returns n bytes, none of them like its neighbours.
func counted(n int) []byte {
	b := make([]byte, n)
	for i := range b {
		b[i] = byte(i + i>>8 + 1)
	}
	return b
}

// digest returns a digest whose bytes all differ.
func digest() api.Hash { return api.Hash(counted(32)) }

// behind returns a copy of b with more memory behind its end, filled with x.
func behind(b []byte, x byte) []byte {
	room := append(append([]byte{}, b...), bytes.Repeat([]byte{x}, 64)...)
	return room[:len(b)]
}

// P1.1: the appended encodings.
func TestAppends(t *testing.T) {
	h := digest()
	for _, before := range [][]byte{nil, {}, {9}, {9, 8, 7}, counted(300)} {
		check := func(name string, got, want []byte) {
			t.Helper()
			if want = append(append([]byte{}, before...), want...); !bytes.Equal(got, want) {
				t.Errorf("%s behind %d bytes is %v, want %v", name, len(before), got, want)
			}
		}
		check("AppendU16 of 0", codec.AppendU16(before, 0), []byte{0, 0})
		check("AppendU16", codec.AppendU16(before, 0xfe01), []byte{0x01, 0xfe})
		check("AppendU16 of the greatest", codec.AppendU16(before, math.MaxUint16), []byte{255, 255})
		check("AppendU32 of 1", codec.AppendU32(before, 1), []byte{1, 0, 0, 0})
		check("AppendU32", codec.AppendU32(before, 0xfedcba98), []byte{0x98, 0xba, 0xdc, 0xfe})
		check("AppendU32 of the greatest", codec.AppendU32(before, math.MaxUint32), []byte{255, 255, 255, 255})
		check("AppendU64 of 1", codec.AppendU64(before, 1), []byte{1, 0, 0, 0, 0, 0, 0, 0})
		check("AppendU64", codec.AppendU64(before, 0xfedcba9876543210), []byte{0x10, 0x32, 0x54, 0x76, 0x98, 0xba, 0xdc, 0xfe})
		check("AppendU64 of the greatest", codec.AppendU64(before, math.MaxUint64), bytes.Repeat([]byte{255}, 8))
		for _, c := range sizes {
			check("AppendSize", codec.AppendSize(before, c.n), c.b)
			if c.n <= 1<<16 {
				s := counted(int(c.n))
				check("AppendBytes", codec.AppendBytes(before, s), append(append([]byte{}, c.b...), s...))
			}
		}
		check("AppendBytes of nil", codec.AppendBytes(before, nil), []byte{0})
		check("AppendHash", codec.AppendHash(before, h), h[:])
	}
}

// P1.1: neither b nor the memory behind its end changes, and the result is new.
func TestAppendsKeepMemory(t *testing.T) {
	h := digest()
	s := []byte{5, 6}
	for name, f := range map[string]func(b []byte) []byte{
		"AppendU16":             func(b []byte) []byte { return codec.AppendU16(b, 0xffff) },
		"AppendU32":             func(b []byte) []byte { return codec.AppendU32(b, 0xffffffff) },
		"AppendU64":             func(b []byte) []byte { return codec.AppendU64(b, math.MaxUint64) },
		"AppendSize in 1 byte":  func(b []byte) []byte { return codec.AppendSize(b, 252) },
		"AppendSize in 3 bytes": func(b []byte) []byte { return codec.AppendSize(b, 253) },
		"AppendSize in 5 bytes": func(b []byte) []byte { return codec.AppendSize(b, 1<<16) },
		"AppendSize in 9 bytes": func(b []byte) []byte { return codec.AppendSize(b, 1<<32) },
		"AppendBytes":           func(b []byte) []byte { return codec.AppendBytes(b, s) },
		"AppendBytes of none":   func(b []byte) []byte { return codec.AppendBytes(b, nil) },
		"AppendHash":            func(b []byte) []byte { return codec.AppendHash(b, h) },
	} {
		for _, length := range []int{0, 1, 40, 64} {
			room := bytes.Repeat([]byte{77}, 64)
			got := f(room[:length])
			for i := range got {
				got[i] = 1
			}
			for i := range got[:cap(got)] {
				got[:cap(got)][i] = 1
			}
			if !bytes.Equal(room, bytes.Repeat([]byte{77}, 64)) {
				t.Errorf("%s behind %d bytes: the memory of its argument is %v", name, length, room)
			}
		}
	}
	if !bytes.Equal(s, []byte{5, 6}) {
		t.Errorf("AppendBytes gave out the memory of its second argument: %v", s)
	}
	if h != digest() {
		t.Errorf("AppendHash changed a digest: %v", h)
	}
	both := []byte{3, 4, 5, 6}
	if got := codec.AppendBytes(both[:1], both[1:]); !bytes.Equal(got, []byte{3, 3, 4, 5, 6}) {
		t.Errorf("AppendBytes of two parts of one array = %v", got)
	}
}

// checkRead tries a reader of width bytes at all places around those of b; value must tell whether a result is right for the bytes that it was read from.
func checkRead[T comparable](t *testing.T, name string, width int, read func([]byte, int) (T, int, api.Errno), value func([]byte) T) {
	t.Helper()
	var zero T
	for _, length := range []int{0, 1, width - 1, width, width + 1, 2*width + 3} {
		// Bytes that are not 0 lie behind the end, so that a reader that goes there is found out.
		b := behind(counted(length), 200)
		for at := -3; at <= length+3; at++ {
			got, next, e := read(b, at)
			switch {
			case at < 0 || at > length:
				if got != zero || next != 0 || e != api.ErrRange {
					t.Errorf("%s of %d bytes at %d = %v, %d, %d, want ErrRange", name, length, at, got, next, e)
				}
			case length-at < width:
				if got != zero || next != 0 || e != api.ErrShort {
					t.Errorf("%s of %d bytes at %d = %v, %d, %d, want ErrShort", name, length, at, got, next, e)
				}
			case got != value(b[at:]) || next != at+width || e != api.OK:
				t.Errorf("%s of %d bytes at %d = %v, %d, %d", name, length, at, got, next, e)
			}
		}
		for _, at := range []int{math.MinInt, math.MinInt + 1, math.MaxInt - 1, math.MaxInt} {
			if got, next, e := read(b, at); got != zero || next != 0 || e != api.ErrRange {
				t.Errorf("%s of %d bytes at %d = %v, %d, %d, want ErrRange", name, length, at, got, next, e)
			}
		}
		if !bytes.Equal(b, counted(length)) {
			t.Errorf("%s changed its argument to %v", name, b)
		}
	}
}

// P1.2: integers and digests, at every place.
func TestReads(t *testing.T) {
	checkRead(t, "U8", 1, codec.U8, func(b []byte) byte { return b[0] })
	checkRead(t, "U16", 2, codec.U16, func(b []byte) uint16 { return uint16(b[0]) + 256*uint16(b[1]) })
	checkRead(t, "U32", 4, codec.U32, func(b []byte) uint32 {
		return uint32(b[0]) + uint32(b[1])<<8 + uint32(b[2])<<16 + uint32(b[3])<<24
	})
	checkRead(t, "U64", 8, codec.U64, func(b []byte) uint64 {
		n := uint64(0)
		for i := 7; i >= 0; i-- {
			n = 256*n + uint64(b[i])
		}
		return n
	})
	checkRead(t, "Hash", 32, codec.Hash, func(b []byte) api.Hash { return api.Hash(b[:32]) })
}

// P1.2: numbers with the highest bit, and of nil.
func TestReadsOfExtremes(t *testing.T) {
	ones := bytes.Repeat([]byte{255}, 32)
	if n, next, e := codec.U8(ones, 31); n != math.MaxUint8 || next != 32 || e != api.OK {
		t.Errorf("U8 = %d, %d, %d", n, next, e)
	}
	if n, next, e := codec.U16(ones, 30); n != math.MaxUint16 || next != 32 || e != api.OK {
		t.Errorf("U16 = %d, %d, %d", n, next, e)
	}
	if n, next, e := codec.U32(ones, 28); n != math.MaxUint32 || next != 32 || e != api.OK {
		t.Errorf("U32 = %d, %d, %d", n, next, e)
	}
	if n, next, e := codec.U64(ones, 24); n != math.MaxUint64 || next != 32 || e != api.OK {
		t.Errorf("U64 = %d, %d, %d", n, next, e)
	}
	if n, next, e := codec.U64(nil, 0); n != 0 || next != 0 || e != api.ErrShort {
		t.Errorf("U64 of nil = %d, %d, %d", n, next, e)
	}
	if h, next, e := codec.Hash(nil, 1); h != (api.Hash{}) || next != 0 || e != api.ErrRange {
		t.Errorf("Hash of nil at 1 = %v, %d, %d", h, next, e)
	}
}

// P1.3: the sizes that are read, alone and among other bytes, and the limits just above and below.
func TestSizes(t *testing.T) {
	for _, c := range sizes {
		b := append(append([]byte{7, 8}, c.b...), 9)
		for _, most := range []uint64{c.n, math.MaxUint64} {
			if n, next, e := codec.Size(b, 2, most); n != c.n || next != 2+len(c.b) || e != api.OK {
				t.Errorf("Size of %v = %d, %d, %d, want %d", c.b, n, next, e, c.n)
			}
		}
		if c.n > 0 {
			if n, next, e := codec.Size(b, 2, c.n-1); n != 0 || next != 0 || e != api.ErrLimit {
				t.Errorf("Size of %v, at most %d = %d, %d, %d, want ErrLimit", c.b, c.n-1, n, next, e)
			}
		}
		for cut := range c.b {
			b := behind(c.b[:cut], 255)
			for _, most := range []uint64{0, math.MaxUint64} {
				if n, next, e := codec.Size(b, 0, most); n != 0 || next != 0 || e != api.ErrShort {
					t.Errorf("Size of %v = %d, %d, %d, want ErrShort", b, n, next, e)
				}
			}
		}
	}
}

// P1.3: the errors of Size in their order.
func TestSizeErrors(t *testing.T) {
	for name, c := range map[string]struct {
		b    []byte
		at   int
		most uint64
		want api.Errno
	}{
		"before":                          {[]byte{1}, -1, 9, api.ErrRange},
		"far before":                      {[]byte{1}, math.MinInt, 9, api.ErrRange},
		"behind the end":                  {[]byte{1}, 2, 9, api.ErrRange},
		"far behind the end":              {[]byte{1}, math.MaxInt, 9, api.ErrRange},
		"range before short":              {nil, 1, 9, api.ErrRange},
		"nothing":                         {nil, 0, 9, api.ErrShort},
		"at the end":                      {[]byte{1}, 1, 9, api.ErrShort},
		"short before canonical":          {[]byte{253, 0}, 0, 9, api.ErrShort},
		"short before limit":              {[]byte{254, 255, 255, 255}, 0, 9, api.ErrShort},
		"short in eight bytes":            {[]byte{255, 0, 0, 0, 0, 0, 0, 0}, 0, 9, api.ErrShort},
		"0 in two bytes":                  {[]byte{253, 0, 0}, 0, 9, api.ErrCanonical},
		"252 in two bytes":                {[]byte{253, 252, 0}, 0, 1000, api.ErrCanonical},
		"252 in four bytes":               {[]byte{254, 252, 0, 0, 0}, 0, 1000, api.ErrCanonical},
		"252 in eight bytes":              {[]byte{255, 252, 0, 0, 0, 0, 0, 0, 0}, 0, 1000, api.ErrCanonical},
		"2^16 - 1 in four bytes":          {[]byte{254, 255, 255, 0, 0}, 0, 1 << 20, api.ErrCanonical},
		"2^16 in eight bytes":             {[]byte{255, 0, 0, 1, 0, 0, 0, 0, 0}, 0, 1 << 20, api.ErrCanonical},
		"2^32 - 1 in eight bytes":         {[]byte{255, 255, 255, 255, 255, 0, 0, 0, 0}, 0, 1 << 40, api.ErrCanonical},
		"canonical before limit":          {[]byte{253, 252, 0}, 0, 0, api.ErrCanonical},
		"canonical before limit in eight": {[]byte{255, 255, 255, 255, 255, 0, 0, 0, 0}, 0, 0, api.ErrCanonical},
		"limit":                           {[]byte{10, 0}, 0, 9, api.ErrLimit},
		"limit of 0":                      {[]byte{1}, 0, 0, api.ErrLimit},
		"the greatest above its limit":    {bytes.Repeat([]byte{255}, 9), 0, math.MaxUint64 - 1, api.ErrLimit},
	} {
		if n, next, e := codec.Size(c.b, c.at, c.most); n != 0 || next != 0 || e != c.want {
			t.Errorf("%s: %d, %d, %d, want %d", name, n, next, e, c.want)
		}
	}
}

// P1.3: byte strings of lengths around those where the size changes, with the greatest length that is allowed.
func TestByteStrings(t *testing.T) {
	for _, c := range sizes {
		if c.n > 1<<16 {
			continue
		}
		s := counted(int(c.n))
		b := append(append(append([]byte{7}, c.b...), s...), 9, 9)
		want := 1 + len(c.b) + len(s)
		for _, most := range []int{len(s), len(s) + 1, math.MaxInt} {
			if got, next, e := codec.Bytes(b, 1, most); !bytes.Equal(got, s) || next != want || e != api.OK {
				t.Errorf("Bytes of %d = %d bytes, %d, %d, want %d", len(s), len(got), next, e, want)
			}
		}
		if got, next, e := codec.Bytes(b[:want], 1, len(s)); !bytes.Equal(got, s) || next != want || e != api.OK {
			t.Errorf("Bytes of %d up to the end = %d bytes, %d, %d", len(s), len(got), next, e)
		}
		if len(s) > 0 {
			if got, next, e := codec.Bytes(b, 1, len(s)-1); len(got) != 0 || next != 0 || e != api.ErrLimit {
				t.Errorf("Bytes of %d with a lower limit = %d bytes, %d, %d", len(s), len(got), next, e)
			}
			if got, next, e := codec.Bytes(behind(b[:want-1], 9), 1, len(s)); len(got) != 0 || next != 0 || e != api.ErrShort {
				t.Errorf("Bytes of %d without the last byte = %d bytes, %d, %d", len(s), len(got), next, e)
			}
		}
	}
}

// P1.3: the errors of Bytes in their order.
func TestByteStringErrors(t *testing.T) {
	for name, c := range map[string]struct {
		b        []byte
		at, most int
		want     api.Errno
	}{
		"before":                          {[]byte{0}, -1, 5, api.ErrRange},
		"behind the end":                  {[]byte{0}, 2, 5, api.ErrRange},
		"far behind the end":              {[]byte{0}, math.MaxInt, 5, api.ErrRange},
		"negative limit":                  {[]byte{0}, 0, -1, api.ErrRange},
		"least limit":                     {[]byte{0}, 0, math.MinInt, api.ErrRange},
		"negative limit before short":     {nil, 0, -1, api.ErrRange},
		"negative limit before canonical": {[]byte{253, 0, 0}, 0, -1, api.ErrRange},
		"no size":                         {nil, 0, 5, api.ErrShort},
		"size cut off":                    {[]byte{253, 1}, 0, 5, api.ErrShort},
		"size not the shortest":           {[]byte{253, 1, 0, 7}, 0, 5, api.ErrCanonical},
		"canonical before limit":          {[]byte{253, 1, 0, 7}, 0, 0, api.ErrCanonical},
		"canonical before short":          {[]byte{253, 9, 0, 7}, 0, 5, api.ErrCanonical},
		"limit":                           {[]byte{3, 1, 2, 3}, 0, 2, api.ErrLimit},
		"limit of 0":                      {[]byte{1, 1}, 0, 0, api.ErrLimit},
		"limit before short":              {[]byte{3, 1, 2}, 0, 2, api.ErrLimit},
		"short":                           {[]byte{3, 1, 2}, 0, 3, api.ErrShort},
		"no byte behind the size":         {[]byte{7, 1}, 1, 3, api.ErrShort},
		"2^63, more than any limit":       {[]byte{255, 0, 0, 0, 0, 0, 0, 0, 128}, 0, math.MaxInt, api.ErrLimit},
		"2^63 - 1, within the limit":      {[]byte{255, 255, 255, 255, 255, 255, 255, 255, 127}, 0, math.MaxInt, api.ErrShort},
		"the greatest size":               {bytes.Repeat([]byte{255}, 9), 0, math.MaxInt, api.ErrLimit},
	} {
		if s, next, e := codec.Bytes(behind(c.b, 3), c.at, c.most); len(s) != 0 || next != 0 || e != c.want {
			t.Errorf("%s: %v, %d, %d, want %d", name, s, next, e, c.want)
		}
	}
}

// P1.3: what Bytes returns is new memory, also behind its end.
func TestBytesIsNew(t *testing.T) {
	from := []byte{3, 7, 8, 9, 10}
	s, _, e := codec.Bytes(from, 0, 3)
	if e != api.OK {
		t.Fatalf("Bytes = %d", e)
	}
	for i := range s[:cap(s)] {
		s[:cap(s)][i] = 99
	}
	if !bytes.Equal(from, []byte{3, 7, 8, 9, 10}) {
		t.Errorf("changing the result changed the argument to %v", from)
	}
	from[1] = 0
	if !bytes.Equal(s, []byte{99, 99, 99}) {
		t.Errorf("changing the argument changed the result to %v", s)
	}
	empty, _, _ := codec.Bytes([]byte{0, 5}, 0, 3)
	if len(empty) != 0 || len(append(empty, 6)) != 1 {
		t.Errorf("Bytes of an empty string = %v", empty)
	}
}

// P1.4: all places.
func TestEnd(t *testing.T) {
	for _, length := range []int{0, 1, 5} {
		b := behind(counted(length), 1)
		for at := -2; at <= length+2; at++ {
			want := api.ErrTrailing
			switch {
			case at == length:
				want = api.OK
			case at < 0 || at > length:
				want = api.ErrRange
			}
			if e := codec.End(b, at); e != want {
				t.Errorf("End of %d bytes at %d = %d, want %d", length, at, e, want)
			}
		}
		for _, at := range []int{math.MinInt, math.MaxInt} {
			if e := codec.End(b, at); e != api.ErrRange {
				t.Errorf("End of %d bytes at %d = %d, want ErrRange", length, at, e)
			}
		}
	}
	if e := codec.End(nil, 0); e != api.OK {
		t.Errorf("End of nil = %d", e)
	}
}

// P1.5: every byte as text.
func TestHex(t *testing.T) {
	if s := codec.Hex(nil); s != "" {
		t.Errorf("Hex of nil = %q", s)
	}
	if s := codec.Hex([]byte{0, 171}); s != "00ab" {
		t.Errorf("Hex of 0, 171 = %q", s)
	}
	for x := range 256 {
		want := string("0123456789abcdef"[x/16]) + string("0123456789abcdef"[x%16])
		if s := codec.Hex([]byte{byte(x)}); s != want {
			t.Errorf("Hex of %d = %q", x, s)
		}
		if b, e := codec.Unhex(want); len(b) != 1 || b[0] != byte(x) || e != api.OK {
			t.Errorf("Unhex of %q = %v, %d", want, b, e)
		}
		if b, e := codec.Unhex(strings.ToUpper(want)); len(b) != 1 || b[0] != byte(x) || e != api.OK {
			t.Errorf("Unhex of %q = %v, %d", strings.ToUpper(want), b, e)
		}
	}
	b := []byte{1, 2}
	codec.Hex(b)
	if !bytes.Equal(b, []byte{1, 2}) {
		t.Errorf("Hex changed its argument to %v", b)
	}
}

// P1.5: every byte as a digit, in the higher and in the lower place.
func TestUnhexDigits(t *testing.T) {
	for c := range 256 {
		value := strings.IndexByte("0123456789abcdef0123456789ABCDEF", byte(c)) % 16
		for name, s := range map[string]string{"higher": string([]byte{byte(c), '5'}), "lower": string([]byte{'5', byte(c)})} {
			b, e := codec.Unhex(s)
			switch {
			case value < 0:
				if len(b) != 0 || e != api.ErrText {
					t.Errorf("Unhex with %d in the %s place = %v, %d, want ErrText", c, name, b, e)
				}
			case name == "higher" && (e != api.OK || !bytes.Equal(b, []byte{byte(16*value + 5)})):
				t.Errorf("Unhex of %q = %v, %d", s, b, e)
			case name == "lower" && (e != api.OK || !bytes.Equal(b, []byte{byte(5*16 + value)})):
				t.Errorf("Unhex of %q = %v, %d", s, b, e)
			}
		}
	}
}

// P1.5: lengths and the errors in their order.
func TestUnhexErrors(t *testing.T) {
	const most = 2 * api.MaxBytes
	for name, c := range map[string]struct {
		s    string
		want api.Errno
	}{
		"nothing":                       {"", api.OK},
		"one digit":                     {"a", api.ErrText},
		"three digits":                  {"abc", api.ErrText},
		"a letter behind digits":        {"00ag", api.ErrText},
		"a letter before digits":        {"g0aa", api.ErrText},
		"a prefix":                      {"0x00", api.ErrText},
		"a sign":                        {"+1", api.ErrText},
		"a space behind":                {"00 ", api.ErrText},
		"a digit of another script":     {"\u0661", api.ErrText},
		"bytes that are no characters":  {"\xff\xfe", api.ErrText},
		"the greatest length":           {strings.Repeat("c", most), api.OK},
		"odd, below the greatest":       {strings.Repeat("c", most-1), api.ErrText},
		"wrong in the greatest length":  {strings.Repeat("c", most-1) + "g", api.ErrText},
		"one longer":                    {strings.Repeat("c", most+1), api.ErrLimit},
		"two longer":                    {strings.Repeat("c", most+2), api.ErrLimit},
		"limit before text":             {strings.Repeat("x", most+1), api.ErrLimit},
		"few characters but many bytes": {strings.Repeat("\u0661", api.MaxBytes+1), api.ErrLimit},
	} {
		b, e := codec.Unhex(c.s)
		if e != c.want || e != api.OK && len(b) != 0 || e == api.OK && len(b) != len(c.s)/2 {
			t.Errorf("%s: %d bytes, %d, want %d", name, len(b), e, c.want)
		}
	}
}

// Consequences: what is appended is read back, and the place behind it is the end.
func TestAppendedIsReadBack(t *testing.T) {
	h := digest()
	for _, before := range [][]byte{nil, {1}, counted(255)} {
		at := len(before)
		for shift := range 64 {
			n := uint64(0xfedcba9876543210) >> shift
			b := codec.AppendU16(before, uint16(n))
			if got, next, e := codec.U16(b, at); got != uint16(n) || e != api.OK || codec.End(b, next) != api.OK {
				t.Errorf("U16 of %d = %d, %d, %d", uint16(n), got, next, e)
			}
			b = codec.AppendU32(before, uint32(n))
			if got, next, e := codec.U32(b, at); got != uint32(n) || e != api.OK || codec.End(b, next) != api.OK {
				t.Errorf("U32 of %d = %d, %d, %d", uint32(n), got, next, e)
			}
			b = codec.AppendU64(before, n)
			if got, next, e := codec.U64(b, at); got != n || e != api.OK || codec.End(b, next) != api.OK {
				t.Errorf("U64 of %d = %d, %d, %d", n, got, next, e)
			}
			b = codec.AppendSize(before, n)
			if got, next, e := codec.Size(b, at, n); got != n || e != api.OK || codec.End(b, next) != api.OK {
				t.Errorf("Size of %d = %d, %d, %d", n, got, next, e)
			}
		}
		for _, n := range []int{0, 1, 252, 253, 1<<16 - 1, 1 << 16} {
			b := codec.AppendBytes(before, counted(n))
			if got, next, e := codec.Bytes(b, at, n); !bytes.Equal(got, counted(n)) || e != api.OK || codec.End(b, next) != api.OK {
				t.Errorf("Bytes of %d = %d bytes, %d, %d", n, len(got), next, e)
			}
		}
		b := codec.AppendHash(before, h)
		if got, next, e := codec.Hash(b, at); got != h || e != api.OK || codec.End(b, next) != api.OK {
			t.Errorf("Hash = %v, %d, %d", got, next, e)
		}
	}
}

// Consequences: a size has one encoding, so that bytes that Size accepts are those that AppendSize makes.
func TestSizesHaveOneEncoding(t *testing.T) {
	parts := []byte{0, 1, 127, 252, 253, 254, 255}
	for first := range 256 {
		for i := range len(parts) * len(parts) * len(parts) {
			low, middle, high := parts[i%7], parts[i/7%7], parts[i/49]
			for _, b := range [][]byte{
				{byte(first), low, high},
				{byte(first), low, middle, high, 0},
				{byte(first), low, 255, middle, high},
				{byte(first), 255, low, 255, middle, high, 0, 0, 0},
				{byte(first), 0, 0, 0, low, middle, 0, 0, high},
			} {
				n, next, e := codec.Size(b, 0, math.MaxUint64)
				if e == api.OK && !bytes.Equal(codec.AppendSize(nil, n), b[:next]) {
					t.Fatalf("Size accepts %v as %d, whose encoding is %v", b[:next], n, codec.AppendSize(nil, n))
				}
			}
		}
	}
}

// Consequences: Unhex undoes Hex, and Hex undoes Unhex but for capital letters.
func TestHexIsReadBack(t *testing.T) {
	for _, n := range []int{0, 1, 2, 255, api.MaxBytes} {
		if b, e := codec.Unhex(codec.Hex(counted(n))); !bytes.Equal(b, counted(n)) || e != api.OK {
			t.Errorf("Unhex of Hex of %d bytes = %d bytes, %d", n, len(b), e)
		}
	}
	if s := codec.Hex(make([]byte, api.MaxBytes+1)); s != strings.Repeat("00", api.MaxBytes+1) {
		t.Errorf("Hex of more than MaxBytes has %d digits", len(s))
	}
	for _, s := range []string{"", "00", "aBcDeF0123456789AbCdEf", "FFfFffFF"} {
		b, e := codec.Unhex(s)
		if got := codec.Hex(b); got != strings.ToLower(s) || e != api.OK {
			t.Errorf("Hex of Unhex of %q = %q, %d", s, got, e)
		}
	}
}

// FuzzReads looks for arguments for which a function panics, gives values with an error, or reads what no Append function makes (P1 and the consequences).
func FuzzReads(f *testing.F) {
	f.Add([]byte{}, 0, 0)
	f.Add([]byte{253, 252, 0}, 0, 9)
	f.Add([]byte{3, 1, 2}, 0, 3)
	f.Add(bytes.Repeat([]byte{255}, 40), 5, math.MaxInt)
	f.Add(bytes.Repeat([]byte{0}, 40), math.MinInt, math.MinInt)
	f.Fuzz(func(t *testing.T, b []byte, at, most int) {
		kept := append([]byte{}, b...)
		agree := func(name string, again []byte, next int, e api.Errno, zero bool) {
			if e != api.OK && (next != 0 || !zero) || e == api.OK && !bytes.Equal(again, b[at:next]) {
				t.Errorf("%s of %v at %d: place %d, error %d", name, b, at, next, e)
			}
		}
		u8, next, e := codec.U8(b, at)
		agree("U8", []byte{u8}, next, e, u8 == 0)
		u16, next, e := codec.U16(b, at)
		agree("U16", codec.AppendU16(nil, u16), next, e, u16 == 0)
		u32, next, e := codec.U32(b, at)
		agree("U32", codec.AppendU32(nil, u32), next, e, u32 == 0)
		u64, next, e := codec.U64(b, at)
		agree("U64", codec.AppendU64(nil, u64), next, e, u64 == 0)
		n, next, e := codec.Size(b, at, uint64(most))
		agree("Size", codec.AppendSize(nil, n), next, e, n == 0)
		s, next, e := codec.Bytes(b, at, most)
		agree("Bytes", codec.AppendBytes(nil, s), next, e, len(s) == 0)
		h, next, e := codec.Hash(b, at)
		agree("Hash", codec.AppendHash(nil, h), next, e, h == api.Hash{})
		if e := codec.End(b, at); (e == api.OK) != (at == len(b)) {
			t.Errorf("End of %d bytes at %d = %d", len(b), at, e)
		}
		if again, e := codec.Unhex(codec.Hex(b)); e == api.OK && !bytes.Equal(again, b) {
			t.Errorf("Unhex of Hex of %v = %v", b, again)
		}
		if again, e := codec.Unhex(string(b)); e == api.OK && codec.Hex(again) != strings.ToLower(string(b)) || e != api.OK && len(again) != 0 {
			t.Errorf("Unhex of %q = %v, %d", b, again, e)
		}
		if !bytes.Equal(b, kept) {
			t.Errorf("the argument %v became %v", kept, b)
		}
	})
}
