// Package label: names, rune by rune: layer 1: see shared/doc/01-label.md.
package label

import (
	"strconv"
	"strings"
	"unicode/utf8"

	"rootcellar/api"
)

// noBytes is the word for a text of no byte, so that no word is empty.
const noBytes = `\_`

// wrong tells whether the rune r that a range over s told at i stands for a wrong byte.
// A range tells U+FFFD of a wrong byte and of U+FFFD itself: only the bytes tell them apart.
func wrong(s string, i int, r rune) bool {
	return r == utf8.RuneError && !strings.HasPrefix(s[i:], string(utf8.RuneError))
}

// Valid tells whether a text is UTF-8, Count how many runes it has, First the first ones.
func Valid(s string) bool {
	for i, r := range s {
		if wrong(s, i, r) {
			return false
		}
	}
	return true
}

func Count(s string) int {
	many := 0
	for range s {
		many++
	}
	return many
}

func First(s string, n int) string {
	many := 0
	for i := range s {
		if many >= n {
			return s[:i]
		}
		many++
	}
	return s
}

// Right tells whether a text may be a name, Fold makes its letters small.
func Right(s string) bool {
	many := 0
	for i, r := range s {
		many++
		if many > api.MaxName || r < ' ' || r == 0x7f || wrong(s, i, r) {
			return false
		}
	}
	return many > 0 && s[0] != ' ' && s[len(s)-1] != ' '
}

func Fold(s string) string {
	folded := []byte(s)
	for i, r := range s {
		if 'A' <= r && r <= 'Z' {
			folded[i] = s[i] - 'A' + 'a'
		}
	}
	return string(folded)
}

// Quote makes any text a word, Unquote reads it.
func Quote(s string) string {
	if s == "" {
		return noBytes
	}
	var word strings.Builder
	for i, r := range s {
		if wrong(s, i, r) {
			// No byte below 128 is wrong, so these are always two digits.
			word.WriteString(`\!`)
			word.WriteString(strconv.FormatInt(int64(s[i]), 16))
		} else {
			quoteRune(&word, r)
		}
	}
	return word.String()
}

func quoteRune(word *strings.Builder, r rune) {
	switch {
	case r == '\\':
		word.WriteString(`\\`)
	case '!' <= r && r <= '~':
		word.WriteByte(byte(r))
	default:
		word.WriteString(`\{`)
		word.WriteString(strconv.FormatInt(int64(r), 16))
		word.WriteByte('}')
	}
}

func Unquote(s string) (string, api.Errno) {
	text, ok := read(s)
	// What is read is more than what Quote tells (noughts ahead, large digits,
	// a rune's bytes one by one): quoting again finds all of that.
	if !ok || Quote(text) != s {
		return "", api.ErrForm
	}
	return text, api.OK
}

// read undoes Quote, where s is what Quote tells; of other words it may answer some text.
func read(s string) (string, bool) {
	if s == noBytes {
		return "", true
	}
	var text []byte
	for i := 0; i < len(s); {
		if s[i] != '\\' {
			text = append(text, s[i])
			i++
			continue
		}
		piece, size := readMark(s[i:])
		if size == 0 {
			return "", false
		}
		text = append(text, piece...)
		i += size
	}
	return string(text), true
}

// readMark reads the mark that s begins with (a `\` first), and tells what it stands for
// and how many bytes it has: 0, if it is none.
func readMark(s string) (string, int) {
	switch {
	case strings.HasPrefix(s, `\\`):
		return `\`, 2
	case strings.HasPrefix(s, `\!`) && len(s) >= 4:
		if n, err := strconv.ParseUint(s[2:4], 16, 8); err == nil {
			return string([]byte{byte(n)}), 4
		}
	case strings.HasPrefix(s, `\{`):
		return readRune(s)
	}
	return "", 0
}

func readRune(s string) (string, int) {
	end := strings.IndexByte(s, '}')
	if end < 0 {
		return "", 0
	}
	n, err := strconv.ParseUint(s[2:end], 16, 32)
	if err != nil || !utf8.ValidRune(rune(n)) {
		return "", 0
	}
	return string(rune(n)), end + 1
}
