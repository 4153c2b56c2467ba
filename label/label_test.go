package label_test

import (
	"fmt"
	"math"
	"strings"
	"testing"

	"rootcellar/api"
	"rootcellar/label"
)

// piece is one rune of a text, or one wrong byte.
type piece struct {
	bytes string
	r     rune
	wrong bool
}

// cut cuts a text as the chapter's section Words says, by the bits of UTF-8, apart from Go's own decoding.
func cut(s string) []piece {
	var ps []piece
	for len(s) > 0 {
		p := piece{s[:1], 0, true}
		for size := 1; size <= 4 && size <= len(s); size++ {
			if r, ok := bits(s[:size]); ok {
				p = piece{s[:size], r, false}
			}
		}
		ps = append(ps, p)
		s = s[len(p.bytes):]
	}
	return ps
}

func bits(s string) (rune, bool) {
	lead := [5]struct{ mask, mark byte }{{}, {0x80, 0}, {0xe0, 0xc0}, {0xf0, 0xe0}, {0xf8, 0xf0}}[len(s)]
	least := [5]rune{0, 0, 0x80, 0x800, 0x10000}[len(s)]
	if s[0]&lead.mask != lead.mark {
		return 0, false
	}
	r := rune(s[0] &^ lead.mask)
	for _, b := range []byte(s[1:]) {
		if b&0xc0 != 0x80 {
			return 0, false
		}
		r = r<<6 | rune(b&0x3f)
	}
	return r, r >= least && r <= 0x10ffff && (r < 0xd800 || r > 0xdfff)
}

// texts is every text of up to two bytes, and every text of up to four of the bytes at which UTF-8's rules turn.
func texts(each func(s string)) {
	each("")
	for a := range 256 {
		each(string([]byte{byte(a)}))
		for b := range 256 {
			each(string([]byte{byte(a), byte(b)}))
		}
	}
	turns := "\x00 AZ[az\\\x7f\x80\x8f\x90\x9f\xa0\xbd\xbf\xc0\xc1\xc2\xdf\xe0\xe1\xec\xed\xee\xef\xf0\xf1\xf3\xf4\xf5\xff"
	var grow func(s string, more int)
	grow = func(s string, more int) {
		each(s)
		for i := 0; more > 0 && i < len(turns); i++ {
			grow(s+turns[i:i+1], more-1)
		}
	}
	grow("", 4)
}

func TestR1Edges(t *testing.T) {
	for _, c := range []struct {
		s     string
		valid bool
		many  int
	}{
		{"", true, 0},
		{"abc", true, 3},
		{"aé", true, 2},
		{"é€😀", true, 3},
		{"\x00", true, 1},
		{"\ufffd", true, 1},
		{"\uffff\ufffe", true, 2},
		{"\xef\xbf\xbd\xef\xbf", false, 3},
		{"\xef", false, 1},
		{"\xff", false, 1},
		{"\x80a\x80", false, 3},
		{"\xc3", false, 1},
		{"\xe2\x82", false, 2},
		{"\xe2\x82z", false, 3},
		{"\xf0\x9f\x98", false, 3},
		{"\xc0\x80", false, 2},
		{"\xc1\xbf", false, 2},
		{"\xe0\x9f\xbf", false, 3},
		{"\xe0\xa0\x80", true, 1},
		{"\xf0\x8f\xbf\xbf", false, 4},
		{"\xf0\x90\x80\x80", true, 1},
		{"\xed\x9f\xbf", true, 1},
		{"\xed\xa0\x80", false, 3},
		{"\xed\xbf\xbf", false, 3},
		{"\xee\x80\x80", true, 1},
		{"\xf4\x8f\xbf\xbf", true, 1},
		{"\xf4\x90\x80\x80", false, 4},
		{"\xf8\x88\x80\x80\x80", false, 5},
	} {
		if got := label.Valid(c.s); got != c.valid {
			t.Errorf("Valid(%q) = %v", c.s, got)
		}
		if got := label.Count(c.s); got != c.many {
			t.Errorf("Count(%q) = %d, want %d", c.s, got, c.many)
		}
	}
}

func TestR1First(t *testing.T) {
	for _, c := range []struct {
		s    string
		n    int
		want string
	}{
		{"éa", 1, "é"},
		{"éa", 2, "éa"},
		{"éa", 3, "éa"},
		{"éa", 0, ""},
		{"éa", -1, ""},
		{"éa", math.MinInt, ""},
		{"éa", math.MaxInt, "éa"},
		{"", 0, ""},
		{"", -1, ""},
		{"", 5, ""},
		{"\xe2\x82z", 1, "\xe2"},
		{"\xe2\x82z", 2, "\xe2\x82"},
		{"\xed\xa0\x80", 1, "\xed"},
		{"a\ufffdb", 2, "a\ufffd"},
		{"\xffé\xff", 2, "\xffé"},
	} {
		if got := label.First(c.s, c.n); got != c.want {
			t.Errorf("First(%q, %d) = %q, want %q", c.s, c.n, got, c.want)
		}
	}
}

func TestR1AllTexts(t *testing.T) {
	texts(func(s string) {
		ps := cut(s)
		valid, front := true, ""
		for i, p := range ps {
			if got := label.First(s, i); got != front {
				t.Fatalf("First(%q, %d) = %q, want %q", s, i, got, front)
			}
			front += p.bytes
			valid = valid && !p.wrong
		}
		if got := label.First(s, len(ps)); got != s {
			t.Fatalf("First(%q, %d) = %q", s, len(ps), got)
		}
		if label.Valid(s) != valid || label.Count(s) != len(ps) {
			t.Fatalf("%q: Valid %v, Count %d; want %v, %d", s, label.Valid(s), label.Count(s), valid, len(ps))
		}
	})
}

func TestR2RightEdges(t *testing.T) {
	for _, c := range []struct {
		s    string
		want bool
	}{
		{"before lunch", true},
		{"a", true},
		{"", false},
		{" ", false},
		{"  ", false},
		{" x", false},
		{"x ", false},
		{"x  y", true},
		{"\u00a0x\u00a0", true},
		{"\x00", false},
		{"a\tb", false},
		{"a\x1fb", false},
		{"a!b", true},
		{"~", true},
		{"\x7f", false},
		{"a\x7fb", false},
		{"\u0080", true},
		{"\ufffd", true},
		{"a\xff", false},
		{"\xc3", false},
		{"\xed\xa0\x80", false},
		{"\U0010ffff", true},
		{"\xf4\x90\x80\x80", false},
		{strings.Repeat("a", 24), true},
		{strings.Repeat("a", 25), false},
		{strings.Repeat("😀", 24), true},
		{strings.Repeat("😀", 25), false},
		{strings.Repeat("a", 24) + "\xff", false},
		{strings.Repeat("a", 23) + "\xff", false},
		{strings.Repeat("a", 23) + " ", false},
		{strings.Repeat("é", 22) + " é", true},
		{strings.Repeat("a", 100000), false},
	} {
		if got := label.Right(c.s); got != c.want {
			t.Errorf("Right(%q) = %v", c.s, got)
		}
	}
}

func right(ps []piece) bool {
	if len(ps) < 1 || len(ps) > 24 || ps[0].bytes == " " || ps[len(ps)-1].bytes == " " {
		return false
	}
	for _, p := range ps {
		if p.wrong || p.r < 0x20 || p.r == 0x7f {
			return false
		}
	}
	return true
}

func TestR2RightAllTexts(t *testing.T) {
	texts(func(s string) {
		if got, want := label.Right(s), right(cut(s)); got != want {
			t.Fatalf("Right(%q) = %v", s, got)
		}
	})
}

func TestR2Fold(t *testing.T) {
	for s, want := range map[string]string{
		"":                           "",
		"ABCDEFGHIJKLMNOPQRSTUVWXYZ": "abcdefghijklmnopqrstuvwxyz",
		"abcdefghijklmnopqrstuvwxyz": "abcdefghijklmnopqrstuvwxyz",
		"@[`{09 ":                    "@[`{09 ",
		"É\u0391\u0410\u0130\u212a":  "É\u0391\u0410\u0130\u212a", // large letters, but none of A to Z
		"\xffA\xc3Z\x80":             "\xffa\xc3z\x80",
		"\ufffdQ":                    "\ufffdq",
	} {
		if got := label.Fold(s); got != want {
			t.Errorf("Fold(%q) = %q, want %q", s, got, want)
		}
	}
	texts(func(s string) {
		want := ""
		for _, p := range cut(s) {
			if !p.wrong && p.r >= 'A' && p.r <= 'Z' {
				p.bytes = string(p.r + 32)
			}
			want += p.bytes
		}
		if got := label.Fold(s); got != want {
			t.Fatalf("Fold(%q) = %q, want %q", s, got, want)
		}
	})
}

func quoted(ps []piece) string {
	if len(ps) == 0 {
		return `\_`
	}
	word := ""
	for _, p := range ps {
		switch {
		case p.wrong:
			word += fmt.Sprintf(`\!%02x`, p.bytes[0])
		case p.r == '\\':
			word += `\\`
		case p.r >= 0x21 && p.r <= 0x7e:
			word += p.bytes
		default:
			word += fmt.Sprintf(`\{%x}`, p.r)
		}
	}
	return word
}

func TestR3QuoteEdges(t *testing.T) {
	for s, want := range map[string]string{
		"":                 `\_`,
		"_":                `_`,
		`\_`:               `\\_`,
		`a é\`:             `a\{20}\{e9}\\`,
		"!~":               `!~`,
		"{}":               `{}`,
		`\{20}`:            `\\{20}`,
		`\!ff`:             `\\!ff`,
		"\x00\x01\x1f\x7f": `\{0}\{1}\{1f}\{7f}`,
		"\u0080":           `\{80}`,
		"\x80":             `\!80`,
		"\xff":             `\!ff`,
		"\xc3\xa9\xc3":     `\{e9}\!c3`,
		"\ufffd":           `\{fffd}`,
		"\xef\xbf":         `\!ef\!bf`,
		"\xed\xa0\x80":     `\!ed\!a0\!80`,
		"\U0010ffff":       `\{10ffff}`,
		"\xf4\x90\x80\x80": `\!f4\!90\!80\!80`,
		"\xc0\x80":         `\!c0\!80`,
	} {
		if got := label.Quote(s); got != want {
			t.Errorf("Quote(%q) = %s, want %s", s, got, want)
		}
		if got, e := label.Unquote(want); got != s || e != api.OK {
			t.Errorf("Unquote(%s) = %q, %v", want, got, e)
		}
	}
}

func TestR3EachRune(t *testing.T) {
	for r := rune(0); r <= 0x10ffff; r++ {
		if r >= 0xd800 && r <= 0xdfff {
			continue
		}
		s := string(r)
		word := quoted([]piece{{s, r, false}})
		if got := label.Quote(s); got != word {
			t.Fatalf("Quote(%q) = %s, want %s", s, got, word)
		}
		if got, e := label.Unquote(word); got != s || e != api.OK {
			t.Fatalf("Unquote(%s) = %q, %v", word, got, e)
		}
	}
}

func TestR3UnquoteWrong(t *testing.T) {
	for _, s := range []string{
		"", " ", "a b", " a", "a ", "\x00", "\n", "\x7f", "é", "\xff", "a\xff",
		`\`, `a\`, `\\\`, `\a`, `\ `, `\}`, `\{`, `\!`, `\{}`, `\{20`, `a\{20`, `\{\{20}}`, `\{20\}`,
		`\{020}`, `\{00}`, `\{000000000000000000000020}`, `\{E9}`, `\{1F600}`, `\{+5}`, `\{-5}`, `\{ 20}`, `\{20 }`, `\{0x20}`, `\{2_0}`, `\{g}`,
		`\{21}`, `\{41}`, `\{7e}`, `\{5c}`, `\{5f}`,
		`\{d800}`, `\{dbff}`, `\{dfff}`, `\{110000}`, `\{ffffffff}`, `\{100000020}`, `\{10000000000000020}`, `\{-1}`,
		`\!f`, `\!fff `, `\!FF`, `\!fF`, `\!00`, `\!41`, `\!7f`, `\!+f`, `\!0x`, `\!g0`, `\!ffé`,
		`\!c3\!a9`, `\!ef\!bf\!bd`, `\!f0\!9f\!98\!80`, `a\!c3\!a9b`,
		`\_\_`, `\_a`, `a\_`, `\_ `, ` \_`, `\\\_`, `\{5f`,
		strings.Repeat(`\{`, 10000), strings.Repeat(`\`, 10001), strings.Repeat(`\{20}`, 10000) + `\`,
	} {
		if got, e := label.Unquote(s); got != "" || e != api.ErrForm {
			t.Errorf("Unquote(%.40q) = %.40q, %v", s, got, e)
		}
	}
}

// TestR3UnquoteAllWords holds every short word of the bytes that marks are made of against Quote:
// what Unquote reads must be quoted as that word, and what it refuses must be no quoted text.
func TestR3UnquoteAllWords(t *testing.T) {
	told := map[string]string{}
	texts(func(s string) { told[label.Quote(s)] = s })
	marks := `\{}!_09afF2`
	var grow func(word string, more int)
	grow = func(word string, more int) {
		got, e := label.Unquote(word)
		if s, ok := told[word]; ok && (got != s || e != api.OK) {
			t.Fatalf("Unquote(%s) = %q, %v, want %q", word, got, e, s)
		}
		if e == api.OK && label.Quote(got) != word || e != api.OK && (e != api.ErrForm || got != "") {
			t.Fatalf("Unquote(%s) = %q, %v", word, got, e)
		}
		for i := 0; more > 0 && i < len(marks); i++ {
			grow(word+marks[i:i+1], more-1)
		}
	}
	grow("", 6)
}

func TestR4Quoted(t *testing.T) {
	told := map[string]string{}
	texts(func(s string) {
		word := label.Quote(s)
		if word != quoted(cut(s)) {
			t.Fatalf("Quote(%q) = %s, want %s", s, word, quoted(cut(s)))
		}
		for _, b := range []byte(word) {
			if b < 33 || b > 126 {
				t.Fatalf("Quote(%q) = %q", s, word)
			}
		}
		if word == "" {
			t.Fatalf("Quote(%q) has no byte", s)
		}
		if other, ok := told[word]; ok && other != s {
			t.Fatalf("%q and %q are both quoted %s", s, other, word)
		}
		told[word] = s
		if got, e := label.Unquote(word); got != s || e != api.OK {
			t.Fatalf("Unquote(%s) = %q, %v, want %q", word, got, e, s)
		}
	})
}

func TestR4Folded(t *testing.T) {
	check := func(s string) {
		once := label.Fold(s)
		if twice := label.Fold(once); twice != once {
			t.Fatalf("%q: folded %q, twice %q", s, once, twice)
		}
		if label.Right(s) && !label.Right(once) {
			t.Fatalf("%q is right, folded %q is not", s, once)
		}
	}
	texts(check)
	check(strings.Repeat("É", 23) + "Z")
	check("Before Lunch")
	check(strings.Repeat("K", 24))
}

func TestLongTexts(t *testing.T) {
	const many = 1 << 20
	s := strings.Repeat("é\xff \\", many)
	if label.Count(s) != 4*many || label.Valid(s) || label.Right(s) || label.Fold(s) != s || len(label.First(s, 4*many-1)) != len(s)-1 {
		t.Error("a long text is told otherwise than a short one")
	}
	word := label.Quote(s)
	if word != strings.Repeat(`\{e9}\!ff\{20}\\`, many) {
		t.Error("a long text is quoted otherwise than a short one")
	}
	if got, e := label.Unquote(word); got != s || e != api.OK {
		t.Error("a long word is not read", e)
	}
}
