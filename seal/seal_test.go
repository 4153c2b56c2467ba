package seal_test

import (
	"hash/crc32"
	"math/rand"
	"strings"
	"testing"

	"rootcellar/api"
	"rootcellar/seal"
)

// sumByBits is S1 word by word, bit by bit, without a table.
func sumByBits(s string) uint32 {
	var register uint32 = 0xFFFFFFFF
	for at := range len(s) * 8 {
		alike := register&1 == uint32(bit(s, at))
		register >>= 1
		if !alike {
			register ^= 0xEDB88320
		}
	}
	return ^register
}

// bit is a text's bit by the chapter's count: of each byte the lowest one first.
func bit(s string, at int) byte { return s[at/8] >> (at % 8) & 1 }

// turned is s with the bits of pattern turned, the lowest one of them at the bit at.
func turned(s string, at int, pattern uint32) string {
	b := []byte(s)
	for i := range 32 {
		if pattern>>i&1 == 1 {
			b[(at+i)/8] ^= 1 << ((at + i) % 8)
		}
	}
	return string(b)
}

// texts is texts of every short length and some long ones, of every byte, right and wrong ones of UTF-8.
func texts() []string {
	ss := []string{"", "123456789", "before lunch", "a é\\", "\xff\xfe\xc0\x80", "\xed\xa0\x80"}
	for b := range 256 {
		ss = append(ss, string([]byte{byte(b)}), string([]byte{'x', byte(b)}), string([]byte{byte(b), 'x'}))
	}
	chance := rand.New(rand.NewSource(3))
	for _, n := range []int{63, 64, 65, 255, 256, 257, 1000, 20000, 70001} {
		b := make([]byte, n)
		chance.Read(b)
		ss = append(ss, string(b))
	}
	for n := range 40 {
		ss = append(ss, strings.Repeat("\x00", n), strings.Repeat("\xff", n), strings.Repeat("ab", n))
	}
	return ss
}

func TestExamples(t *testing.T) {
	if n := seal.Sum("123456789"); n != 0xCBF43926 {
		t.Errorf("Sum(123456789): %#x", n)
	}
	if n := seal.Sum(""); n != 0 {
		t.Errorf("Sum of nothing: %#x", n)
	}
}

func TestS1SumKnown(t *testing.T) {
	for s, want := range map[string]uint32{
		"\x00":                     0xD202EF8D,
		"\xff":                     0xFF000000,
		"a":                        0xE8B7BE43,
		"abc":                      0x352441C2,
		"\x00\x00\x00\x00":         0x2144DF1C,
		"\xff\xff\xff\xff":         0xFFFFFFFF,
		strings.Repeat("\x00", 32): 0x190A55AD,
		strings.Repeat("\xff", 32): 0xFF6CAB0B,
	} {
		if n := seal.Sum(s); n != want {
			t.Errorf("Sum(%q): %#x, not %#x", s, n, want)
		}
	}
}

func TestS1SumByBits(t *testing.T) {
	for _, s := range texts() {
		want := sumByBits(s)
		if other := crc32.ChecksumIEEE([]byte(s)); other != want {
			t.Fatalf("the tests' own sum of %q: %#x, not %#x", s, want, other)
		}
		for range 2 { // nothing is kept from call to call
			if n := seal.Sum(s); n != want {
				t.Errorf("Sum(%q): %#x, not %#x", s, n, want)
			}
		}
	}
}

func TestS2PutKnown(t *testing.T) {
	for s, want := range map[string]string{
		"":          "\x00\x00\x00\x00",
		"abc":       "abc\xc2\x41\x24\x35",
		"123456789": "123456789\x26\x39\xf4\xcb",
		"\xff":      "\xff\x00\x00\x00\xff",
	} {
		if got := seal.Put(s); got != want {
			t.Errorf("Put(%q): %q, not %q", s, got, want)
		}
	}
}

func TestS2PutOfEachText(t *testing.T) {
	for _, s := range texts() {
		n := sumByBits(s)
		want := s + string([]byte{byte(n), byte(n >> 8), byte(n >> 16), byte(n >> 24)})
		if got := seal.Put(s); got != want {
			t.Errorf("Put(%q): %q, not %q", s, got, want)
		}
	}
}

func TestS2Take(t *testing.T) {
	for _, c := range []struct {
		s, want string
		e       api.Errno
	}{
		{"", "", api.ErrShort},
		{"\x00", "", api.ErrShort},
		{"\x00\x00\x00", "", api.ErrShort},
		{"abc", "", api.ErrShort},
		{"\x00\x00\x00\x00", "", api.OK},
		{"\x01\x00\x00\x00", "", api.ErrSum},
		{"\x00\x00\x00\x01", "", api.ErrSum},
		{"abcd", "", api.ErrSum},
		{"a\x43\xbe\xb7\xe8", "a", api.OK},
		{"a\xe8\xb7\xbe\x43", "", api.ErrSum}, // the highest byte first
		{"\x43\xbe\xb7\xe8a", "", api.ErrSum}, // ahead, not behind
		{"a\xbc\x41\x48\x17", "", api.ErrSum}, // the bits of the end not turned
		{"b\x43\xbe\xb7\xe8", "", api.ErrSum},
		{"\x00\x00\x00\x00\x00", "", api.ErrSum},
		{"\x00\x8d\xef\x02\xd2", "\x00", api.OK},
		{"abc\xc2\x41\x24\x35", "abc", api.OK},
		{"abc\xc2\x41\x24", "", api.ErrSum},
		{"abc\xc2\x41\x24\x35\x00", "", api.ErrSum},
		{"\xff\xff\xff\xff\xff\xff\xff\xff", "\xff\xff\xff\xff", api.OK},
	} {
		if s, e := seal.Take(c.s); s != c.want || e != c.e {
			t.Errorf("Take(%q): %q %d, not %q %d", c.s, s, e, c.want, c.e)
		}
	}
}

func TestS2TakeEachByteOfTheSumWrong(t *testing.T) {
	for _, s := range []string{"", "x", "123456789"} {
		put := seal.Put(s)
		for i := len(s); i < len(put); i++ {
			for b := range 256 {
				want, wantErr := "", api.ErrSum
				if byte(b) == put[i] {
					want, wantErr = s, api.OK
				}
				wrong := put[:i] + string([]byte{byte(b)}) + put[i+1:]
				if got, e := seal.Take(wrong); got != want || e != wantErr {
					t.Errorf("Take(%q): %q %d, not %q %d", wrong, got, e, want, wantErr)
				}
			}
		}
	}
}

func TestS2TakeIsByTheSum(t *testing.T) {
	// Any four bytes behind any text are held against the sum of all that is ahead of them.
	for _, s := range texts() {
		want, wantErr := "", api.ErrShort
		if len(s) >= 4 {
			wantErr = api.ErrSum
			if seal.Put(s[:len(s)-4]) == s {
				want, wantErr = s[:len(s)-4], api.OK
			}
		}
		if got, e := seal.Take(s); got != want || e != wantErr {
			t.Errorf("Take(%q): %q %d, not %q %d", s, got, e, want, wantErr)
		}
	}
}

func TestS2Equal(t *testing.T) {
	for _, c := range []struct {
		a, b string
		want bool
	}{
		{"", "", true},
		{"a", "a", true},
		{"a", "b", false},
		{"a", "A", false},
		{"", "a", false},
		{"", "\x00", false},
		{"\x00", "\x00\x00", false},
		{"ab", "ba", false},
		{"a", "a\x00", false},
		{"plumless", "buckeroo", true}, // unlike texts of the same sum
		{"", "\x9d\x0a\xd9\x6d", true},
	} {
		if seal.Equal(c.a, c.b) != c.want || seal.Equal(c.b, c.a) != c.want {
			t.Errorf("Equal(%q, %q): not %v", c.a, c.b, c.want)
		}
	}
}

func TestS2EqualOfEachPair(t *testing.T) {
	ss := texts()[:200]
	for _, a := range ss {
		for _, b := range ss {
			if got, want := seal.Equal(a, b), sumByBits(a) == sumByBits(b); got != want {
				t.Errorf("Equal(%q, %q): %v", a, b, got)
			}
		}
	}
}

func TestS3TakeOfPut(t *testing.T) {
	for _, s := range texts() {
		if got, e := seal.Take(seal.Put(s)); got != s || e != api.OK {
			t.Errorf("Take(Put(%q)): %q %d", s, got, e)
		}
		twice := seal.Put(seal.Put(s))
		once, e := seal.Take(twice)
		if got, e2 := seal.Take(once); got != s || e != api.OK || e2 != api.OK {
			t.Errorf("of %q, put twice: %q %d %d", s, got, e, e2)
		}
	}
}

// patterns is bits to be turned, all within 32: one, two beside one another, all of so many, the ends of so many, and some by chance.
func patterns(chance *rand.Rand) []uint32 {
	var ps []uint32
	for n := range 32 {
		all := uint32(0xFFFFFFFF) >> (31 - n)
		ps = append(ps, 1<<n, 3<<n, all, 1|1<<n)
	}
	ps = append(ps, 0xEDB88320, 0xEDB88321, 0xDB710641, 0x04C11DB7, 0x55555555, 0xAAAAAAAA) // what the sum itself is made of
	for range 100 {
		ps = append(ps, chance.Uint32()|1)
	}
	return ps
}

func TestS3TurnedBitsAreRefused(t *testing.T) {
	chance := rand.New(rand.NewSource(4))
	for _, s := range []string{"", "x", "abc", "some text", "\x00\x00\x00\x00\x00\x00", "\xff\xff\xff\xff\xff", texts()[len(texts())-1]} {
		put := seal.Put(s)
		// Each bit at which they may begin: in the text, in the sum, and across both.
		for at := range len(put) * 8 {
			for _, p := range patterns(chance) {
				if rest := len(put)*8 - at; rest < 32 {
					p &= 1<<rest - 1
				}
				if p == 0 {
					continue
				}
				wrong := turned(put, at, p)
				if got, e := seal.Take(wrong); got != "" || e != api.ErrSum {
					t.Fatalf("of %q, bits %#x turned from bit %d on: %q %d", s, p, at, got, e)
				}
			}
		}
	}
}

func TestS3ThirtyThreeBitsMayPass(t *testing.T) {
	// The bound is the sum's own: the bits of its rule, 33 beside one another, make a text that was put out of another one.
	put := seal.Put("some text")
	wrong := turned(turned(put, 11, 1), 12, 0xEDB88320)
	if got, e := seal.Take(wrong); e != api.OK || got == "some text" {
		t.Errorf("%q %d", got, e)
	}
}
