package le_test

import (
	"math"
	"math/big"
	"strings"
	"testing"

	"rootcellar/le"
)

// numbers is the numbers at which bytes, words and signs turn, and one with eight unlike bytes.
func numbers() []uint64 {
	ns := []uint64{0, 1, 2, 3, 0x0807060504030201, 0xfedcba9876543210}
	for i := 1; i <= 64; i++ {
		top := uint64(math.MaxUint64) >> (64 - i) // 2^i - 1
		ns = append(ns, top-1, top, top+1, top+2)
	}
	return ns
}

// manys is how many bytes may be asked for, and what lies beyond.
func manys() []int {
	return []int{math.MinInt, math.MinInt32, -9, -8, -1, 0, 1, 2, 3, 4, 5, 6, 7, 8, 9, 10, 16, 256, math.MaxInt32, math.MaxInt}
}

// lowest is the bytes of n by division, so that nothing of the program's shifts is in it.
func lowest(n uint64, many int) string {
	var s []byte
	for range many {
		s = append(s, byte(n%256))
		n /= 256
	}
	return string(s)
}

func big64(n uint64) *big.Int { return new(big.Int).SetUint64(n) }

func TestExamples(t *testing.T) {
	if s := le.Put(258, 3); s != "\x02\x01\x00" {
		t.Errorf("Put(258, 3): %q", s)
	}
	r := le.Reader{Left: "\x01\x02"}
	if n := r.Number(1); n != 1 || r.Bad {
		t.Errorf("the first number: %d %#v", n, r)
	}
	if n := r.Number(2); n != 0 || !r.Bad || r.Left != "\x02" {
		t.Errorf("the second number: %d %#v", n, r)
	}
}

func TestL1Put(t *testing.T) {
	for _, n := range numbers() {
		for _, many := range manys() {
			want := lowest(n, max(0, min(many, 8)))
			if s := le.Put(n, many); s != want {
				t.Errorf("Put(%#x, %d): %q, not %q", n, many, s, want)
			}
		}
	}
}

func TestL1Get(t *testing.T) {
	for s, want := range map[string]uint64{
		"":                                     0,
		"\x00":                                 0,
		"\xff":                                 255,
		"\x00\x01":                             256,
		"\x02\x01":                             258,
		"\x02\x01\x00":                         258,
		"\x01\x02\x03\x04":                     0x04030201,
		"\x01\x02\x03\x04\x05\x06\x07":         0x07060504030201,
		"\x01\x02\x03\x04\x05\x06\x07\x08":     0x0807060504030201,
		"\x01\x02\x03\x04\x05\x06\x07\x08\x09": 0x0807060504030201,
		"\x01\x02\x03\x04\x05\x06\x07\x08\x00\xff": 0x0807060504030201,
		"\x00\x00\x00\x00\x00\x00\x00\x80":         1 << 63,
		"\x00\x00\x00\x00\x00\x00\x00\x00\x01":     0,
		strings.Repeat("\xff", 8):                  math.MaxUint64,
		strings.Repeat("\xff", 5000):               math.MaxUint64,
		"\xef\xbf\xbd":                             0xbdbfef, // bytes, not runes
	} {
		if n := le.Get(s); n != want {
			t.Errorf("Get(%q): %#x, not %#x", s, n, want)
		}
	}
}

func TestL1GetOfPut(t *testing.T) {
	for _, n := range numbers() {
		for many := range 9 {
			want := new(big.Int).Mod(big64(n), new(big.Int).Lsh(big.NewInt(1), uint(8*many)))
			if got := le.Get(le.Put(n, many)); got != want.Uint64() {
				t.Errorf("Get(Put(%#x, %d)): %#x, not %#x", n, many, got, want)
			}
		}
	}
}

// lefts is bytes from none to more than a number has, no two of them alike.
func lefts() []string {
	const all = "\xf1\x02\xe3\x04\xd5\x06\xc7\x08\xb9\x0a\xab\x0c"
	var ss []string
	for i := range len(all) + 1 {
		ss = append(ss, all[:i])
	}
	return ss
}

func TestL2Number(t *testing.T) {
	for _, left := range lefts() {
		for _, many := range manys() {
			for _, bad := range []bool{false, true} {
				r := le.Reader{Left: left, Bad: bad}
				want, then := uint64(0), le.Reader{Left: left, Bad: true}
				if !bad && many >= 0 && many <= 8 && many <= len(left) {
					for i := many - 1; i >= 0; i-- {
						want = want*256 + uint64(left[i])
					}
					then = le.Reader{Left: left[many:]}
				}
				if n := r.Number(many); n != want || r != then {
					t.Errorf("of %q, %v: Number(%d): %#x, not %#x; %#v, not %#v", left, bad, many, n, want, r, then)
				}
			}
		}
	}
}

func TestL2Text(t *testing.T) {
	for _, left := range lefts() {
		for _, many := range manys() {
			for _, bad := range []bool{false, true} {
				r := le.Reader{Left: left, Bad: bad}
				want, then := "", le.Reader{Left: left, Bad: true}
				if !bad && many >= 0 && many <= len(left) {
					want, then = left[:many], le.Reader{Left: left[many:]}
				}
				if s := r.Text(many); s != want || r != then {
					t.Errorf("of %q, %v: Text(%d): %q, not %q; %#v, not %#v", left, bad, many, s, want, r, then)
				}
			}
		}
	}
}

func TestL2NineBytesAreATextAndNoNumber(t *testing.T) {
	r := le.Reader{Left: "123456789"}
	if s := r.Text(9); s != "123456789" || !r.Over() {
		t.Errorf("Text(9): %q, %#v", s, r)
	}
	r = le.Reader{Left: "123456789"}
	if n := r.Number(9); n != 0 || !r.Bad || r.Left != "123456789" {
		t.Errorf("Number(9): %d, %#v", n, r)
	}
}

func TestL2Over(t *testing.T) {
	for _, c := range []struct {
		r    le.Reader
		want bool
	}{
		{le.Reader{}, true},
		{le.Reader{Bad: true}, false},
		{le.Reader{Left: "\x00"}, false},
		{le.Reader{Left: "x", Bad: true}, false},
	} {
		r := c.r
		if r.Over() != c.want || r != c.r {
			t.Errorf("Over of %#v: %v; then %#v", c.r, !c.want, r)
		}
	}
}

func TestL2OverBehindReads(t *testing.T) {
	r := le.Reader{Left: "\x01ab"}
	if r.Over() || r.Number(1) != 1 || r.Over() || r.Text(2) != "ab" || !r.Over() {
		t.Errorf("%#v", r)
	}
	// Nothing is asked for, nothing is missing.
	if r.Number(0) != 0 || r.Text(0) != "" || !r.Over() {
		t.Errorf("%#v", r)
	}
	if r.Number(1) != 0 || r.Over() {
		t.Errorf("%#v", r)
	}
	for name, ask := range map[string]func(r *le.Reader){
		"Number(-1)": func(r *le.Reader) { r.Number(-1) },
		"Number(9)":  func(r *le.Reader) { r.Number(9) },
		"Text(-1)":   func(r *le.Reader) { r.Text(-1) },
		"Text(1)":    func(r *le.Reader) { r.Text(1) },
	} {
		r := le.Reader{}
		if ask(&r); r.Over() || !r.Bad {
			t.Errorf("%s of no byte: %#v", name, r)
		}
	}
}

func TestL3Edges(t *testing.T) {
	const top = math.MaxUint64
	for _, c := range []struct {
		a, b, sum uint64
		isSum     bool
		product   uint64
		isProduct bool
	}{
		{0, 0, 0, true, 0, true},
		{0, top, top, true, 0, true},
		{1, top - 1, top, true, top - 1, true},
		{1, top, 0, false, top, true},
		{2, top, 0, false, 0, false},
		{top, top, 0, false, 0, false},
		{1 << 63, 1<<63 - 1, top, true, 0, false},
		{1 << 63, 1 << 63, 0, false, 0, false},
		{1 << 63, 2, 1<<63 + 2, true, 0, false},
		{1<<63 - 1, 2, 1<<63 + 1, true, top - 1, true},
		{1 << 32, 1 << 32, 1 << 33, true, 0, false},
		{1<<32 + 1, 1<<32 - 1, 1 << 33, true, top, true}, // 2^64 - 1
		{1<<32 - 1, 1<<32 - 1, 1<<33 - 2, true, 1<<64 - 1<<33 + 1, true},
		{3, top / 3, top/3 + 3, true, top, true},
		{3, top/3 + 1, top/3 + 4, true, 0, false},                // 2^64 + 2
		{274177, 67280421310721, 67280421584898, true, 0, false}, // 2^64 + 1
		{641, 6700417, 6701058, true, 1<<32 + 1, true},
	} {
		for _, p := range [][2]uint64{{c.a, c.b}, {c.b, c.a}} {
			if n, ok := le.Add(p[0], p[1]); n != c.sum || ok != c.isSum {
				t.Errorf("Add(%d, %d): %d %v", p[0], p[1], n, ok)
			}
			if n, ok := le.Mul(p[0], p[1]); n != c.product || ok != c.isProduct {
				t.Errorf("Mul(%d, %d): %d %v", p[0], p[1], n, ok)
			}
		}
	}
}

func TestL3EachPair(t *testing.T) {
	for _, a := range numbers() {
		for _, b := range numbers() {
			for _, c := range []struct {
				name string
				call func(a, b uint64) (uint64, bool)
				want *big.Int
			}{
				{"Add", le.Add, new(big.Int).Add(big64(a), big64(b))},
				{"Mul", le.Mul, new(big.Int).Mul(big64(a), big64(b))},
			} {
				want, is := uint64(0), c.want.IsUint64()
				if is {
					want = c.want.Uint64()
				}
				if n, ok := c.call(a, b); n != want || ok != is {
					t.Errorf("%s(%d, %d): %d %v, not %d %v", c.name, a, b, n, ok, want, is)
				}
			}
		}
	}
}

func TestL4WhatWasPutIsReadAgain(t *testing.T) {
	for many := range 9 {
		var put strings.Builder
		var want []uint64
		for _, n := range numbers() {
			if many < 8 {
				n %= 1 << (8 * many)
			}
			put.WriteString(le.Put(n, many))
			want = append(want, n)
		}
		r := le.Reader{Left: put.String()}
		for i, n := range want {
			if got := r.Number(many); got != n || r.Bad {
				t.Fatalf("number %d of %d bytes: %#x, not %#x; %v", i, many, got, n, r.Bad)
			}
		}
		if !r.Over() {
			t.Errorf("of %d bytes: %q is left, %v", many, r.Left, r.Bad)
		}
	}
}

func TestL4NumbersOfUnlikeSizesAndTexts(t *testing.T) {
	put := le.Put(7, 1) + le.Put(70000, 4) + "a text" + le.Put(math.MaxUint64, 8) + le.Put(0, 2)
	r := le.Reader{Left: put}
	if r.Number(1) != 7 || r.Number(4) != 70000 || r.Text(6) != "a text" || r.Number(8) != math.MaxUint64 || r.Number(2) != 0 || !r.Over() {
		t.Errorf("%#v", r)
	}
}

func TestL4EachCutIsBad(t *testing.T) {
	put := le.Put(1, 1) + le.Put(2, 3) + le.Put(3, 8)
	for size := range len(put) {
		r := le.Reader{Left: put[:size]}
		r.Number(1)
		r.Number(3)
		if r.Number(8) != 0 || !r.Bad || r.Over() {
			t.Errorf("of %d bytes: %#v", size, r)
		}
	}
}

func TestL4BadStaysBad(t *testing.T) {
	asks := map[string]func(r *le.Reader) bool{
		"Number(0)":  func(r *le.Reader) bool { return r.Number(0) == 0 },
		"Number(1)":  func(r *le.Reader) bool { return r.Number(1) == 0 },
		"Number(8)":  func(r *le.Reader) bool { return r.Number(8) == 0 },
		"Number(9)":  func(r *le.Reader) bool { return r.Number(9) == 0 },
		"Number(-1)": func(r *le.Reader) bool { return r.Number(-1) == 0 },
		"Text(0)":    func(r *le.Reader) bool { return r.Text(0) == "" },
		"Text(1)":    func(r *le.Reader) bool { return r.Text(1) == "" },
		"Text(-1)":   func(r *le.Reader) bool { return r.Text(-1) == "" },
		"Over()":     func(r *le.Reader) bool { return !r.Over() },
	}
	for _, left := range []string{"", "\xff", "\xff\xff\xff\xff\xff\xff\xff\xff\xff"} {
		for first, one := range asks {
			for second, two := range asks {
				r := le.Reader{Left: left, Bad: true}
				if !one(&r) || !two(&r) || r != (le.Reader{Left: left, Bad: true}) {
					t.Errorf("of %q, Bad: %s, %s: %#v", left, first, second, r)
				}
			}
		}
	}
}
