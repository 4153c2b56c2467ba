package dir_test

import (
	"bytes"
	"encoding/binary"
	"fmt"
	"hash/crc32"
	"math"
	"math/rand"
	"slices"
	"sort"
	"strings"
	"testing"
	"unicode/utf8"

	"rootcellar/api"
	"rootcellar/dir"
)

// The chapter's own numbers, so that other ones of the program would be seen.
const (
	most      = 8192 // sectors
	mostBytes = 20000
	mostFiles = 120
	mostSpans = 200
)

// row is spans, each by its first sector and how many it has.
func row(numbers ...int) []api.Span {
	var l []api.Span
	for i := 0; i+1 < len(numbers); i += 2 {
		l = append(l, api.Span{At: numbers[i], Many: numbers[i+1]})
	}
	return l
}

// singles is so many spans of one sector, the first one at a sector, with one sector between.
func singles(at, many int) []api.Span {
	var l []api.Span
	for i := range many {
		l = append(l, api.Span{At: at + 2*i, Many: 1})
	}
	return l
}

func of(name string, size int, spans ...int) dir.File {
	return dir.File{Name: name, Size: size, Spans: row(spans...)}
}

func spread(name string, size int, l []api.Span) dir.File {
	return dir.File{Name: name, Size: size, Spans: l}
}

// files is so many files of no bytes.
func files(many int) []dir.File {
	var l []dir.File
	for i := range many {
		l = append(l, of(fmt.Sprintf("%03d", i), 0))
	}
	return l
}

func same(a, b dir.File) bool {
	return a.Name == b.Name && a.Size == b.Size && slices.Equal(a.Spans, b.Spans)
}

func alike(a, b []dir.File) bool { return slices.EqualFunc(a, b, same) }

// deep is a directory that shares nothing with the one it is of.
func deep(l []dir.File) []dir.File {
	var all []dir.File
	for _, f := range l {
		all = append(all, dir.File{Name: strings.Clone(f.Name), Size: f.Size, Spans: append([]api.Span(nil), f.Spans...)})
	}
	return all
}

// wells is files that are well.
func wells() []dir.File {
	return []dir.File{
		// Names.
		of("a", 0), of("~", 0), of("!", 0), of("a b", 0), of("a  b", 0), of("0", 0), of("\\", 0), of("/", 0), of(".", 0),
		of("é", 0), of("\u0080", 0), of("\u00a0", 0), of("二", 0), of("\U0010ffff", 0), of("\ufffd", 0), of("e\u0301", 0),
		of(strings.Repeat("x", 24), 0), of(strings.Repeat("é", 24), 0), of(strings.Repeat("\U00010000", 24), 0),
		of(strings.Repeat("\U0010ffff", 23)+"a", 0), of("a"+strings.Repeat(" ", 22)+"a", 0),
		{Name: "empty", Spans: []api.Span{}},

		// Sizes at the bounds of one sector, of more, and of all.
		of("a", 1, 2, 1), of("a", 2, 2, 1), of("a", 63, 2, 1), of("a", 64, 2, 1), of("a", 65, 2, 2), of("a", 128, 2, 2), of("a", 129, 2, 3),
		of("a", 19968, 2, 312), of("a", 19969, 2, 313), of("a", 19999, 2, 313), of("a", 20000, 2, 313), of("a", 256, 5, 4), of("a", 255, 5, 4),

		// Spans at the bounds of the device: a file's own may be any of its sectors.
		of("a", 64, 0, 1), of("a", 64, 1, 1), of("a", 128, 0, 2), of("a", 64, most-1, 1), of("a", 20000, most-313, 313), of("a", 128, most-2, 2),
		of("a", 128, 0, 1, 2, 1), of("a", 128, 0, 1, most-1, 1), of("a", 3*64, 7, 1, 300, 2), of("a", 65, 258, 1, 300, 1),

		// 199 and 200 of them.
		spread("a", 199*64, singles(2, 199)), spread("a", 200*64, singles(2, 200)), spread("a", 199*64+1, singles(0, 200)),
		spread("a", 200*64, singles(most-399, 200)), spread("a", 20000, append(singles(0, 199), row(500, 114)...)),
	}
}

// ills is files that are not well.
func ills() []dir.File {
	const huge = math.MaxInt
	return []dir.File{
		{}, // of no name

		// Names.
		of("", 64, 2, 1), of(" ", 0), of("  ", 0), of(" a", 0), of("a ", 0), of("\x1f", 0), of("\x00", 0), of("a\nb", 0), of("a\x1f", 0), of("\x7f", 0), of("a\x7fb", 0),
		of("\xff", 0), of("a\x80", 0), of("\xc3", 0), of("\xed\xa0\x80", 0), of("\xc0\x80", 0), of("\xf4\x90\x80\x80", 0),
		of(strings.Repeat("x", 25), 0), of(strings.Repeat("é", 25), 0), of(strings.Repeat("\U00010000", 25), 0), of(strings.Repeat("x", 256), 0), of(strings.Repeat("x", 257), 0), of(strings.Repeat("x", 280), 0), of(strings.Repeat("x", 1<<16), 0),

		// Sizes.
		of("a", -1), of("a", -63), of("a", -64), of("a", -65), of("a", -1, 2, 1), of("a", math.MinInt), of("a", math.MinInt, 2, 1), of("a", math.MinInt+63, 2, 1),
		of("a", 20001, 2, 313), of("a", 20032, 2, 313), of("a", 20033, 2, 314), of("a", most*64, 0, most), of("a", 20001),
		of("a", 1<<32), of("a", 1<<32+64, 2, 1), of("a", huge), of("a", huge, 2, 1), of("a", huge-62, 2, 1), of("a", huge-63, 2, 1),

		// A sector too many, or too few.
		of("a", 1), of("a", 63), of("a", 64), of("a", 0, 2, 1), of("a", 65, 2, 1), of("a", 128, 2, 1), of("a", 64, 2, 2), of("a", 63, 2, 2), of("a", 1, 2, 2), of("a", 129, 2, 2), of("a", 128, 2, 3),
		of("a", 20000, 2, 312), of("a", 20000, 2, 314), of("a", 19968, 2, 313), of("a", 19969, 2, 312), of("a", 20000), of("a", 64, 2, 1, 4, 1), of("a", 129, 2, 1, 4, 1),
		spread("a", 200*64+1, singles(2, 200)), spread("a", 199*64, singles(2, 200)), of("a", 0, 0, 1),

		// How many spans.
		spread("a", 201*64, singles(2, 201)), spread("a", 200*64, singles(2, 201)), spread("a", 200*64+1, singles(2, 201)), spread("a", 255*64, singles(2, 255)), spread("a", 256*64, singles(2, 256)), spread("a", 300*64, singles(2, 300)),
		spread("a", 200*64, append(singles(2, 200), api.Span{})), spread("a", 200*64, append(singles(2, 200), api.Span{At: 1000})), spread("a", 4096*64, singles(0, 4096)),

		// Rows that are not right for 8192 sectors: beyond them, of nothing, out of order, touching, twice there.
		of("a", 64, most, 1), of("a", 128, most-1, 2), of("a", 20000, most-312, 313), of("a", 64, most+9, 1), of("a", 64, -1, 1), of("a", 128, -1, 2),
		of("a", 0, 2, 0), of("a", 0, 2, -1), of("a", 0, 0, 0), of("a", 64, 2, 1, 4, 0), of("a", 64, 2, 0, 4, 1), of("a", 64, 2, 2, 5, -1), of("a", 0, 4, 0, 6, 0), of("a", 64, 2, -1, 4, 1),
		of("a", 128, 4, 1, 2, 1), of("a", 128, 2, 1, 3, 1), of("a", 192, 2, 2, 4, 1), of("a", 128, 2, 1, 2, 1), of("a", 64, 2, 1, 2, 1), of("a", 192, 2, 2, 3, 1), of("a", 128, 2, 2, 3, 1), of("a", 128, 3, 1, 2, 1),
		of("a", 64, 1<<16+2, 1), of("a", 64, 2, 1<<16+1), of("a", 64, -65534, 1), of("a", 64, huge, 1), of("a", 64, math.MinInt, 1), of("a", 64, 2, huge), of("a", 0, 2, math.MinInt), of("a", 64, huge, huge), of("a", 0, math.MinInt, math.MinInt),
	}
}

// directories is rows that are directories.
func directories() [][]dir.File {
	all := [][]dir.File{
		nil, {}, files(1), files(2), files(119), files(mostFiles),

		// By bytes: what is ahead of what is longer, capitals of small letters, all of ASCII of what is not, and UTF-8 by its numbers.
		{of("a", 0), of("aa", 0), of("ab", 0), of("b", 0)},
		{of("A", 0), of("B", 0), of("a", 0), of("b", 0)},
		{of("!", 0), of("Z", 0), of("a", 0), of("~", 0), of("\u0080", 0), of("é", 0), of("ê", 0), of("二", 0), of("\uffff", 0), of("\U00010000", 0), of("\U0010ffff", 0)},
		{of("1", 0), of("10", 0), of("2", 0), of("a b", 0), of("a!b", 0), of("ab", 0)},

		// Files of all kinds: they may have sectors in common, as far as Put knows.
		{of("a", 64, 2, 1), of("c", 128, 3, 2)},
		{of("a", 64, 2, 1), of("b", 64, 2, 1)},
		{of("a", 128, 0, 2), of("b", 20000, 2, 313), of("c", 65, 258, 1, 300, 1), of("d", 0), of("é", 64, most-1, 1)},
		{spread("a", 200*64, singles(2, 200)), of("b", 1, 3, 1), spread("c", 199*64+1, singles(0, 200))},
	}
	for _, f := range wells() {
		all = append(all, []dir.File{f})
	}
	return append(all, widest())
}

// widest is as many files as may be, of as many bytes as they may have.
func widest() []dir.File {
	var l []dir.File
	for i := range mostFiles {
		name := strings.Repeat("\U0010ff00", 23) + string(rune(0x10ff00+i))
		l = append(l, spread(name, 200*64, singles(i, mostSpans)))
	}
	return l
}

// none is rows that are no directories.
func none() [][]dir.File {
	all := [][]dir.File{
		files(mostFiles + 1), files(256), files(257), files(376), files(1000), append(files(mostFiles), dir.File{}),

		// Alike, and out of their order.
		{of("a", 0), of("a", 0)}, {of("a", 0), of("a", 64, 2, 1)}, {of("a", 0), of("b", 0), of("b", 0)}, {of("a", 0), of("a", 0), of("b", 0)}, {of("a", 0), of("b", 0), of("a", 0)},
		{of("b", 0), of("a", 0)}, {of("a", 0), of("c", 0), of("b", 0)}, {of("b", 0), of("a", 0), of("c", 0)}, {of("aa", 0), of("a", 0)}, {of("a", 0), of("B", 0)}, {of("10", 0), of("1", 0)}, {of("2", 0), of("10", 0), of("1", 0)},
		{of("é", 0), of("z", 0)}, {of("\U00010000", 0), of("\uffff", 0)}, {of("二", 0), of("é", 0)}, {of("ab", 0), of("a b", 0)}, {of("e\u0301", 0), of("e", 0)},
		slices.Concat(files(mostFiles-1), []dir.File{of("000", 0)}), slices.Concat(files(50)[1:], files(1)),
	}
	for _, f := range ills() {
		all = append(all, []dir.File{f})
	}
	// One that is not well, wherever it is.
	for _, f := range []dir.File{of("b", 1), of("b", -1), of("b", 64, most, 1), of("b", 0, 2, 0)} {
		all = append(all, []dir.File{f, of("c", 0)}, []dir.File{of("a", 0), f}, []dir.File{of("a", 0), f, of("c", 0)})
	}
	return append(all, []dir.File{of("", 0), of("a", 0)}, []dir.File{of("a", 0), of("a ", 0)}, []dir.File{of("a", 0), of("\xff", 0)})
}

// wellByWords is the chapter's words of a file, sector by sector.
func wellByWords(f dir.File) bool {
	runes := []rune(f.Name)
	if !utf8.ValidString(f.Name) || len(runes) < 1 || len(runes) > 24 || runes[0] == ' ' || runes[len(runes)-1] == ' ' {
		return false
	}
	for _, r := range runes {
		if r < 0x20 || r == 0x7f {
			return false
		}
	}
	if f.Size < 0 || f.Size > mostBytes || len(f.Spans) > mostSpans {
		return false
	}
	in, last := 0, -2
	for _, s := range f.Spans {
		if s.Many < 1 || s.Many > most || s.At < 0 || s.At >= most || s.At-last < 2 {
			return false
		}
		last = s.At + s.Many - 1
		in += s.Many
	}
	needed := 0
	for i := 0; i < f.Size; i += 64 {
		needed++
	}
	return last < most && in == needed
}

func directoryByWords(l []dir.File) bool {
	for i, f := range l {
		if i == mostFiles || !wellByWords(f) || i > 0 && bytes.Compare([]byte(l[i-1].Name), []byte(f.Name)) >= 0 {
			return false
		}
	}
	return true
}

// rightByWords is I2's words, sector by sector.
func rightByWords(l []dir.File, sectors int, own []api.Span) bool {
	if !directoryByWords(l) || sectors < 1 || sectors > most {
		return false
	}
	all := row(0, 1, 1, 1)
	for _, f := range l {
		all = append(all, f.Spans...)
	}
	taken := make([]bool, sectors)
	for _, s := range append(all, own...) {
		if s.Many < 1 || s.At < 0 || s.At >= sectors || s.Many > sectors {
			return false
		}
		for i := s.At; i < s.At+s.Many; i++ {
			if i >= sectors || taken[i] {
				return false
			}
			taken[i] = true
		}
	}
	return true
}

// sealed is bytes and their sum.
func sealed(b []byte) string {
	return string(binary.LittleEndian.AppendUint32(slices.Clone(b), crc32.ChecksumIEEE(b)))
}

// textOf is the bytes of a row of files ahead of the sum, by the library's means.
func textOf(l []dir.File) []byte {
	b := []byte{byte(len(l))}
	for _, f := range l {
		b = append(b, byte(len(f.Name)))
		b = append(b, f.Name...)
		b = binary.LittleEndian.AppendUint32(b, uint32(f.Size))
		b = append(b, byte(len(f.Spans)))
		for _, s := range f.Spans {
			b = binary.LittleEndian.AppendUint16(b, uint16(s.At))
			b = binary.LittleEndian.AppendUint16(b, uint16(s.Many))
		}
	}
	return b
}

// bytesOf is all of them.
func bytesOf(l []dir.File) string { return sealed(textOf(l)) }

// directoryOf is I3's words of what lies ahead of a sum.
func directoryOf(b []byte) (l []dir.File, ok bool) {
	some := func(n int) []byte {
		if len(b) < n {
			b, ok = nil, false
			return make([]byte, n)
		}
		first := b[:n]
		b = b[n:]
		return first
	}
	ok = true
	for range some(1)[0] {
		name := some(int(some(1)[0]))
		f := dir.File{Name: string(name), Size: int(binary.LittleEndian.Uint32(some(4)))}
		for range some(1)[0] {
			at, many := binary.LittleEndian.Uint16(some(2)), binary.LittleEndian.Uint16(some(2))
			f.Spans = append(f.Spans, api.Span{At: int(at), Many: int(many)})
		}
		l = append(l, f)
	}
	if !ok || len(b) > 0 || !directoryByWords(l) {
		return nil, false
	}
	return l, true
}

// put is the bytes of a directory.
func put(t *testing.T, l []dir.File) string {
	t.Helper()
	s, e := dir.Put(l)
	if e != api.OK {
		t.Fatalf("Put(%v): %q %d", l, s, e)
	}
	return s
}

// refused holds Take of a text against an error, and against the nothing that must be told with it.
func refused(t *testing.T, s string, want api.Errno) {
	t.Helper()
	if l, e := dir.Take(s); e != want || len(l) != 0 {
		t.Errorf("Take(%q): %v %d, not %d", s, l, e, want)
	}
}

// chanceFile is a file that is well.
func chanceFile(chance *rand.Rand, name string) dir.File {
	f := dir.File{Name: name}
	left, next := 313-chance.Intn(313), chance.Intn(20)
	total := 0
	for range chance.Intn(1 + chance.Intn(12)) {
		many := 1 + chance.Intn(1+chance.Intn(40))
		if many > left || next+many > most {
			break
		}
		f.Spans = append(f.Spans, api.Span{At: next, Many: many})
		total, left = total+many, left-many
		next += many + 1 + chance.Intn(1+chance.Intn(1000))
	}
	if total > 0 {
		f.Size = min(mostBytes, total*64-chance.Intn(64))
	}
	return f
}

// chanceName is a name of few letters, so that some are alike.
func chanceName(chance *rand.Rand) string {
	letters := []string{"a", "b", "A", "0", "é", "二", "\U00010000", "~"}
	name := ""
	for range 1 + chance.Intn(3) {
		name += letters[chance.Intn(len(letters))]
	}
	return name
}

// chanceDirectory is a directory of up to so many files.
func chanceDirectory(chance *rand.Rand, many int) []dir.File {
	byName := map[string]dir.File{}
	for range chance.Intn(1 + many) {
		name := chanceName(chance)
		byName[name] = chanceFile(chance, name)
	}
	return listed(byName)
}

// listed is files by the bytes of their names.
func listed(byName map[string]dir.File) []dir.File {
	var names []string
	for name := range byName {
		names = append(names, name)
	}
	sort.Strings(names)
	var l []dir.File
	for _, name := range names {
		l = append(l, byName[name])
	}
	return l
}

func mapped(l []dir.File) map[string]dir.File {
	byName := map[string]dir.File{}
	for _, f := range l {
		byName[f.Name] = f
	}
	return byName
}

func TestExamples(t *testing.T) {
	s, e := dir.Put([]dir.File{of("a", 3, 5, 1)})
	if want := string([]byte{1, 1, 'a', 3, 0, 0, 0, 1, 5, 0, 1, 0}); e != api.OK || len(s) != 16 || s[:12] != want {
		t.Errorf("%q %d", s, e)
	}
}

func TestLimits(t *testing.T) {
	if dir.MaxSpans != mostSpans {
		t.Error(dir.MaxSpans)
	}
}

func TestI1Find(t *testing.T) {
	l := []dir.File{of("a", 64, 2, 1), of("c", 128, 3, 2), of("é", 0)}
	for _, want := range l {
		if f, ok := dir.Find(l, want.Name); !ok || !same(f, want) {
			t.Errorf("Find(%q): %v %v", want.Name, f, ok)
		}
	}
	for _, name := range []string{"", "b", "A", "C", "aa", "ac", "a ", " a", "d", "e\u0301", "\xc3", "\xc3\xa9\x00", "\x00"} {
		if f, ok := dir.Find(l, name); ok || !same(f, dir.File{}) {
			t.Errorf("Find(%q): %v %v", name, f, ok)
		}
		if f, ok := dir.Find(nil, name); ok || !same(f, dir.File{}) {
			t.Errorf("Find(%q) of nothing: %v %v", name, f, ok)
		}
	}
}

func TestI1FindOfAnyRow(t *testing.T) {
	// The first one, wherever it is, and whatever the files are.
	l := []dir.File{of("b", 1), of("a", -5, 3, 4), of("", 7, 9, 0), of("b", 2), of("a", 3), of("\xff", 4), of("", 8), of("b", 3)}
	for name, want := range map[string]int{"b": 0, "a": 1, "": 2, "\xff": 5} {
		if f, ok := dir.Find(l, name); !ok || !same(f, l[want]) {
			t.Errorf("Find(%q): %v %v", name, f, ok)
		}
		if f, ok := dir.Find(l[want:want+1], name); !ok || !same(f, l[want]) {
			t.Errorf("Find(%q) of it alone: %v %v", name, f, ok)
		}
	}
	for _, many := range []int{120, 121, 3000} {
		l := files(many)
		last := l[many-1]
		if f, ok := dir.Find(l, last.Name); !ok || !same(f, last) {
			t.Errorf("the last of %d: %v %v", many, f, ok)
		}
	}
}

func TestI1With(t *testing.T) {
	a, c, e := of("a", 64, 2, 1), of("c", 128, 3, 2), of("e", 0)
	l := []dir.File{a, c, e}
	for _, k := range []struct {
		f    dir.File
		want []dir.File
	}{
		// In the place of the file of its name.
		{of("a", 65, 9, 2), []dir.File{of("a", 65, 9, 2), c, e}},
		{of("c", 65, 9, 2), []dir.File{a, of("c", 65, 9, 2), e}},
		{of("e", 65, 9, 2), []dir.File{a, c, of("e", 65, 9, 2)}},
		{c, l},

		// At the beginning, between, and at the end.
		{of("A", 0), []dir.File{of("A", 0), a, c, e}},
		{of("0", 1, 8, 1), []dir.File{of("0", 1, 8, 1), a, c, e}},
		{of("aa", 0), []dir.File{a, of("aa", 0), c, e}},
		{of("b", 0), []dir.File{a, of("b", 0), c, e}},
		{of("bzzz", 0), []dir.File{a, of("bzzz", 0), c, e}},
		{of("d", 0), []dir.File{a, c, of("d", 0), e}},
		{of("e\u0301", 0), []dir.File{a, c, e, of("e\u0301", 0)}},
		{of("f", 0), []dir.File{a, c, e, of("f", 0)}},
		{of("é", 0), []dir.File{a, c, e, of("é", 0)}},

		// Whatever it is.
		{of("", 5), []dir.File{of("", 5), a, c, e}},
		{dir.File{}, []dir.File{{}, a, c, e}},
		{of(" a", 0), []dir.File{of(" a", 0), a, c, e}},
		{of("a\x00", 0), []dir.File{a, of("a\x00", 0), c, e}},
		{of("\xff", 0), []dir.File{a, c, e, of("\xff", 0)}},
		{of("c", -1, 9, -9, 3, 0), []dir.File{a, of("c", -1, 9, -9, 3, 0), e}},
		{of("d", math.MinInt, -1, math.MaxInt), []dir.File{a, c, of("d", math.MinInt, -1, math.MaxInt), e}},
		{spread("b", 7, singles(0, 300)), []dir.File{a, spread("b", 7, singles(0, 300)), c, e}},
		{of(strings.Repeat("d", 1000), 0), []dir.File{a, c, of(strings.Repeat("d", 1000), 0), e}},
	} {
		if got := dir.With(l, k.f); !alike(got, k.want) {
			t.Errorf("With %v: %v", k.f, got)
		}
		if got := dir.With(nil, k.f); !alike(got, []dir.File{k.f}) {
			t.Errorf("With %v, of nothing: %v", k.f, got)
		}
	}
}

func TestI1WithOfMany(t *testing.T) {
	// A directory that is full takes one more: then it is none.
	full := files(mostFiles)
	for i := range mostFiles {
		f := of(full[i].Name, 64, 100+i, 1)
		want := deep(full)
		want[i] = f
		if got := dir.With(full, f); !alike(got, want) {
			t.Errorf("With %v: %v", f, got)
		}
		between := of(full[i].Name+"x", 0)
		if got := dir.With(full, between); !alike(got, slices.Insert(deep(full), i+1, between)) {
			t.Errorf("With %v: %v", between, got)
		}
	}
	// One by one, from either end, and from between.
	chance := rand.New(rand.NewSource(1))
	for _, order := range [][]int{chance.Perm(mostFiles), chance.Perm(mostFiles), chance.Perm(7)} {
		var l []dir.File
		for _, i := range order {
			l = dir.With(l, full[i])
		}
		if !alike(l, full[:len(order)]) {
			t.Errorf("by %v: %v", order, l)
		}
	}
}

func TestI1Without(t *testing.T) {
	a, c, e := of("a", 64, 2, 1), of("c", 128, 3, 2), of("é", 0)
	l := []dir.File{a, c, e}
	for name, want := range map[string][]dir.File{"a": {c, e}, "c": {a, e}, "é": {a, c}} {
		if got := dir.Without(l, name); !alike(got, want) {
			t.Errorf("Without(%q): %v", name, got)
		}
	}
	for _, name := range []string{"", "b", "A", "C", "aa", "a ", " a", "0", "d", "z", "e\u0301", "\xff", "\x00", "c\x00"} {
		if got := dir.Without(l, name); !alike(got, l) {
			t.Errorf("Without(%q): %v", name, got)
		}
		if got := dir.Without(nil, name); len(got) != 0 {
			t.Errorf("Without(%q) of nothing: %v", name, got)
		}
	}
	if got := dir.Without(l[:1], "a"); len(got) != 0 {
		t.Error(got)
	}
	full := files(mostFiles)
	for i, f := range full {
		if got := dir.Without(full, f.Name); !alike(got, slices.Delete(deep(full), i, i+1)) {
			t.Errorf("Without(%q): %v", f.Name, got)
		}
	}
}

func TestI1Used(t *testing.T) {
	for _, c := range []struct {
		l    []dir.File
		want []api.Span
	}{
		{nil, nil}, {files(3), nil}, {[]dir.File{of("a", 64, 2, 1)}, row(2, 1)},
		{[]dir.File{of("a", 64, 9, 1), of("b", 128, 2, 1, 4, 1), of("c", 0), of("d", 192, 6, 2, 11, 1)}, row(9, 1, 2, 1, 4, 1, 6, 2, 11, 1)},

		// As they are, be they a directory's or not.
		{[]dir.File{of("b", 64, 2, 1), of("a", 64, 2, 1), of("a", 1, 3, 1, 2, 1)}, row(2, 1, 2, 1, 3, 1, 2, 1)},
		{[]dir.File{of("", -1, -5, 0, 9000, -7), {}, of("\xff", 0, math.MinInt, math.MaxInt)}, row(-5, 0, 9000, -7, math.MinInt, math.MaxInt)},
		{[]dir.File{spread("a", 0, singles(0, 201)), spread("b", 0, singles(7, 300))}, append(singles(0, 201), singles(7, 300)...)},
	} {
		if got := dir.Used(c.l); !slices.Equal(got, c.want) {
			t.Errorf("Used(%v): %v", c.l, got)
		}
	}
	var want []api.Span
	for i := range mostFiles {
		want = append(want, singles(i, mostSpans)...)
	}
	if got := dir.Used(widest()); !slices.Equal(got, want) {
		t.Error("Used of the widest one")
	}
}

func TestI2Right(t *testing.T) {
	a, c := of("a", 64, 2, 1), of("c", 128, 3, 2) // 2; 3 and 4
	l := []dir.File{a, c}
	for i, k := range []struct {
		l       []dir.File
		sectors int
		own     []api.Span
		want    bool
	}{
		// How many sectors there are.
		{nil, 2, nil, true}, {nil, 1, nil, false}, {nil, 0, nil, false}, {nil, -1, nil, false}, {nil, 3, nil, true}, {nil, most, nil, true}, {nil, most + 1, nil, false},
		{nil, math.MaxInt, nil, false}, {nil, math.MinInt, nil, false}, {nil, 1<<32 + 9, nil, false}, {files(120), 2, nil, true}, {files(120), 1, nil, false}, {files(120), most + 1, nil, false},
		{l, 9, nil, true}, {l, 5, nil, true}, {l, 4, nil, false}, {l, 2, nil, false}, {l, 1, nil, false}, {l, 0, nil, false}, {l, most, nil, true}, {l, most + 1, nil, false},
		{[]dir.File{of("a", 64, most-1, 1)}, most, nil, true}, {[]dir.File{of("a", 64, most-1, 1)}, most - 1, nil, false},

		// Own, that touches, that is there, and that is none; in any order.
		{l, 9, row(5, 1), true}, {l, 9, row(4, 1), false}, {l, 9, row(3, 1), false}, {l, 9, row(2, 1), false}, {l, 9, row(5, 4), true}, {l, 9, row(5, 5), false}, {l, 9, row(8, 1), true}, {l, 9, row(9, 1), false},
		{l, 9, row(8, 1, 5, 1), true}, {l, 9, row(5, 1, 6, 1), true}, {l, 9, row(6, 1, 5, 1), true}, {l, 9, row(5, 1, 5, 1), false}, {l, 9, row(5, 2, 6, 1), false}, {l, 9, row(5, 0), false}, {l, 9, row(5, -1), false}, {l, 9, row(-1, 1), false},
		{l, 9, row(5, 1, 7, 0), false}, {l, 9, row(0, 1), false}, {l, 9, row(1, 1), false}, {l, 9, row(0, 2), false}, {l, 9, row(1, 2), false}, {nil, 9, row(2, 7), true}, {nil, 9, row(2, 8), false}, {nil, 9, row(0, 1), false}, {nil, 9, row(1, 1), false},
		{nil, 2, row(2, 1), false}, {nil, 3, row(2, 1), true}, {nil, 9, singles(2, 9), false}, {nil, 99, singles(2, 48), true}, {nil, most, singles(3, 4095), true}, {nil, most, singles(2, 4096), false},
		{l, 9, row(5, math.MaxInt), false}, {l, 9, row(math.MaxInt, 1), false}, {l, 9, row(math.MinInt, math.MaxInt), false}, {l, 9, row(math.MaxInt, math.MaxInt), false}, {l, 9, row(5, math.MinInt), false},

		// Files of the sectors 0 and 1, or of one another's.
		{[]dir.File{of("a", 64, 0, 1)}, 9, nil, false}, {[]dir.File{of("a", 64, 1, 1)}, 9, nil, false}, {[]dir.File{of("a", 128, 0, 2)}, 9, nil, false}, {[]dir.File{of("a", 128, 1, 2)}, 9, nil, false}, {[]dir.File{of("a", 64, 2, 1)}, 9, nil, true},
		{[]dir.File{of("a", 64, 2, 1), of("b", 64, 2, 1)}, 9, nil, false}, {[]dir.File{of("a", 64, 2, 1), of("b", 64, 3, 1)}, 9, nil, true}, {[]dir.File{of("a", 64, 3, 1), of("b", 64, 2, 1)}, 9, nil, true},
		{[]dir.File{of("a", 192, 2, 3), of("b", 64, 4, 1)}, 9, nil, false}, {[]dir.File{of("a", 192, 2, 3), of("b", 64, 3, 1)}, 9, nil, false}, {[]dir.File{of("a", 64, 2, 1), of("b", 0), of("c", 64, 2, 1)}, 9, nil, false},
		{[]dir.File{of("a", 128, 2, 1, 4, 1), of("b", 128, 3, 1, 5, 1)}, 9, nil, true}, {[]dir.File{of("a", 128, 2, 1, 4, 1), of("b", 192, 3, 2, 6, 1)}, 9, nil, false},

		// No directory.
		{[]dir.File{c, a}, 9, nil, false}, {[]dir.File{a, a}, 9, nil, false}, {[]dir.File{a, of("a", 64, 5, 1)}, 9, nil, false}, {[]dir.File{of("a", 128, 2, 1, 3, 1)}, 9, nil, false}, {[]dir.File{of("a", 128, 4, 1, 2, 1)}, 9, nil, false},
		{[]dir.File{of("a", 128, 2, 1, 2, 1)}, 9, nil, false}, {[]dir.File{of("a", 63, 2, 2)}, 9, nil, false}, {[]dir.File{of("", 64, 2, 1)}, 9, nil, false}, {files(121), 9, nil, false},
	} {
		if want := rightByWords(k.l, k.sectors, k.own); want != k.want {
			t.Fatalf("%d: the tests' own words: %v", i, want)
		}
		if got := dir.Right(k.l, k.sectors, k.own); got != k.want {
			t.Errorf("%d: Right(%v, %d, %v): %v", i, k.l, k.sectors, k.own, got)
		}
	}
}

func TestI2RightOfEachRow(t *testing.T) {
	for _, l := range slices.Concat(directories(), none()) {
		for _, sectors := range []int{-1, 0, 1, 2, 3, 5, 9, 320, 600, most - 1, most, most + 1} {
			for _, own := range [][]api.Span{nil, row(2, 1), row(8, 1), row(319, 1), row(most-1, 1), row(5, 0)} {
				if got, want := dir.Right(l, sectors, own), rightByWords(l, sectors, own); got != want {
					t.Fatalf("Right(%v, %d, %v): %v", l, sectors, own, got)
				}
			}
		}
	}
}

func TestI2RightOfEachSpan(t *testing.T) {
	for at := -1; at < 11; at++ {
		for many := -1; many < 6; many++ {
			for next := -1; next < 11; next++ {
				for nextMany := -1; nextMany < 4; nextMany++ {
					one, two := of("a", 64*max(0, many), at, many), of("b", 64*max(0, nextMany), next, nextMany)
					both := of("a", 64*max(0, many+nextMany), at, many, next, nextMany)
					for _, c := range []struct {
						l   []dir.File
						own []api.Span
					}{{[]dir.File{one, two}, nil}, {[]dir.File{one}, two.Spans}, {nil, both.Spans}, {[]dir.File{both}, nil}, {[]dir.File{two}, one.Spans}} {
						if got, want := dir.Right(c.l, 9, c.own), rightByWords(c.l, 9, c.own); got != want {
							t.Fatalf("Right(%v, 9, %v): %v", c.l, c.own, got)
						}
					}
				}
			}
		}
	}
}

func TestI2RightByChance(t *testing.T) {
	chance := rand.New(rand.NewSource(2))
	rights := 0
	for range 20000 {
		l := chanceDirectory(chance, 3)
		sectors := most - chance.Intn(most/2)
		var own []api.Span
		for range chance.Intn(4) {
			own = append(own, api.Span{At: chance.Intn(most), Many: chance.Intn(9)})
		}
		want := rightByWords(l, sectors, own)
		if want {
			rights++
		}
		if got := dir.Right(l, sectors, own); got != want {
			t.Fatalf("Right(%v, %d, %v): %v", l, sectors, own, got)
		}
	}
	if rights < 1000 || rights > 19000 {
		t.Error("of the rows", rights, "are right")
	}
}

func TestI3PutKnown(t *testing.T) {
	for _, c := range []struct {
		l    []dir.File
		want string
	}{
		{nil, "\x00\x8d\xef\x02\xd2"},
		{[]dir.File{of("a", 3, 5, 1)}, "\x01\x01a\x03\x00\x00\x00\x01\x05\x00\x01\x00\x88\xee\xf3\x35"},
		{[]dir.File{of("a", 0)}, "\x01\x01a\x00\x00\x00\x00\x00\xbc\x08\x57\xcc"},
		{[]dir.File{of("B", 65, 258, 1, 8191, 1), of("a b", 20000, 3, 313)}, "\x02\x01B\x41\x00\x00\x00\x02\x02\x01\x01\x00\xff\x1f\x01\x00\x03a b\x20\x4e\x00\x00\x01\x03\x00\x39\x01\x8c\x6f\x0c\x94"},
		{[]dir.File{of("é", 0), of("二", 128, 0, 2), of("\U00010000", 256, 2, 4)}, "\x03\x02\xc3\xa9\x00\x00\x00\x00\x00\x03\xe4\xba\x8c\x80\x00\x00\x00\x01\x00\x00\x02\x00\x04\xf0\x90\x80\x80\x00\x01\x00\x00\x01\x02\x00\x04\x00\xb7\x69\xef\x18"},
	} {
		if got := put(t, c.l); got != c.want {
			t.Errorf("Put(%v): %q, not %q", c.l, got, c.want)
		}
	}
}

func TestI3PutOfEachDirectory(t *testing.T) {
	for _, l := range directories() {
		if !directoryByWords(l) {
			t.Fatalf("the tests' own words of %v", l)
		}
		if got, want := put(t, l), bytesOf(l); got != want {
			t.Errorf("Put(%v): %q, not %q", l, got, want)
		}
	}
	for _, l := range none() {
		if directoryByWords(l) {
			t.Fatalf("the tests' own words of %v", l)
		}
		if s, e := dir.Put(l); s != "" || e != api.ErrArg {
			t.Errorf("Put(%v): %q %d", l, s, e)
		}
	}
}

func TestI3PutOfEachSize(t *testing.T) {
	for _, many := range []int{0, 1, 2, 3, 200, 311, 312, 313, 314} {
		one := of("a", 0, 4, many)
		if many == 0 {
			one.Spans = nil
		}
		for size := -70; size < 20200; size++ {
			if size > 300 && size < 12000 {
				continue
			}
			one.Size = size
			want := api.ErrArg
			if size >= 0 && size <= 20000 && size > (many-1)*64 && size <= many*64 {
				want = api.OK
			}
			if s, e := dir.Put([]dir.File{one}); e != want || (s == "") != (e != api.OK) {
				t.Fatalf("Put(%v): %q %d", one, s, e)
			}
		}
	}
}

func TestI3PutOfEachRune(t *testing.T) {
	for r := rune(0); r <= 0x10ffff; r++ {
		if r > 0x3000 && r < 0xd700 || r > 0x10100 && r < 0x10ff00 {
			continue
		}
		// A rune that is none becomes U+FFFD, which is one.
		l := []dir.File{of(string(r), 0)}
		s, e := dir.Put(l)
		if r < 0x20 || r == 0x20 || r == 0x7f {
			if s != "" || e != api.ErrArg {
				t.Fatalf("%U: %q %d", r, s, e)
			}
		} else if s != bytesOf(l) || e != api.OK {
			t.Fatalf("%U: %q %d", r, s, e)
		}
	}
}

func TestI3TakeOfEachDirectory(t *testing.T) {
	for _, l := range directories() {
		if got, e := dir.Take(bytesOf(l)); !alike(got, l) || e != api.OK {
			t.Errorf("Take of %v: %v %d", l, got, e)
		}
	}
}

func TestI3TakeOfShortTexts(t *testing.T) {
	for _, s := range []string{"", "a", "\x00", "abc", "\x00\x00\x00", "\x8d\xef\x02", "\xff\xff\xff"} {
		refused(t, s, api.ErrShort)
	}
	// Sealed nothing: the sum is right, and no number is there.
	refused(t, "\x00\x00\x00\x00", api.ErrForm)
	refused(t, "\x00\x00\x00\x01", api.ErrSum)
}

func TestI3TakeOfAnotherSum(t *testing.T) {
	for _, l := range [][]dir.File{nil, {of("a", 3, 5, 1)}, {of("B", 65, 258, 1, 8191, 1), of("a b", 20000, 3, 313)}, files(120)} {
		good := bytesOf(l)
		for i := range good {
			for _, by := range []byte{1, 2, 0x80, 0xff} {
				refused(t, good[:i]+string([]byte{good[i] ^ by})+good[i+1:], api.ErrSum)
			}
		}
		refused(t, good[:len(good)-1], api.ErrSum)
		refused(t, good+"x", api.ErrSum)
		refused(t, "x"+good, api.ErrSum)
		refused(t, good+good, api.ErrSum)
	}
	// The sum comes first, whatever else is wrong.
	for _, s := range []string{"\xff\xff\xff\xfe", strings.Repeat("\x00", 5), "rtcl", strings.Repeat("\xff", 99), "\x01\x01a\x03\x00\x00\x00\x01\x05\x00\x01\x00", strings.Repeat("z", 1<<20)} {
		refused(t, s, api.ErrSum)
	}
	form := sealed([]byte("\x01"))
	refused(t, form, api.ErrForm)
	refused(t, form[:4]+string([]byte{form[4] ^ 1}), api.ErrSum)
}

func TestI3TakeOfACutDirectory(t *testing.T) {
	for _, l := range directories() {
		text := textOf(l)
		step := 1 + len(text)/300
		for n := 0; n < len(text); n += step {
			refused(t, sealed(text[:n]), api.ErrForm)
		}
		refused(t, sealed(text[:len(text)-1]), api.ErrForm)
		for _, more := range []string{"\x00", "\x01", "\xff", " ", "\x00\x00\x00\x00", "\x01a\x00\x00\x00\x00\x00", string(text)} {
			refused(t, sealed(append(slices.Clone(text), more...)), api.ErrForm)
		}
		if len(l) > 0 {
			refused(t, sealed(text[1:]), api.ErrForm)
		}
		refused(t, sealed([]byte(bytesOf(l))), api.ErrForm) // sealed twice
	}
}

func TestI3TakeOfNoDirectory(t *testing.T) {
	// What none() is as bytes, where they can say it.
	for _, l := range none() {
		for i, f := range l {
			if len(l) > 255 || len(f.Name) > 255 || len(f.Spans) > 255 || f.Size < 0 || f.Size >= 1<<32 {
				break
			}
			within := !slices.ContainsFunc(f.Spans, func(s api.Span) bool { return s.At < 0 || s.At >= 1<<16 || s.Many < 0 || s.Many >= 1<<16 })
			if within && i == len(l)-1 {
				refused(t, bytesOf(l), api.ErrForm)
			}
		}
	}
	const one = "\x01\x01a\x40\x00\x00\x00\x01\x05\x00\x01\x00" // 64 bytes at 5
	if l, e := dir.Take(sealed([]byte(one))); !alike(l, []dir.File{of("a", 64, 5, 1)}) || e != api.OK {
		t.Fatal(l, e)
	}
	for _, s := range []string{
		"", "\x01", "\x02", "\xff", "\x79", "\x00" + one[1:], "\x02" + one[1:], "\xff" + one[1:],

		// How many bytes the name has.
		"\x01\x00a" + one[3:], "\x01\x02a" + one[3:], "\x01\x00" + one[3:], "\x01\xffa" + one[3:], "\x01\x0aa" + one[3:], "\x01\x0ba" + one[3:], "\x01\x01ab" + one[3:], "\x01\x01" + one[3:],

		// Size: of fewer and more bytes than the sectors have, too great, and the highest byte first.
		"\x01\x01a\x41\x00\x00\x00" + one[7:], "\x01\x01a\x00\x00\x00\x00" + one[7:], "\x01\x01a\x40\x00\x00\x01" + one[7:], "\x01\x01a\xff\xff\xff\xff" + one[7:], "\x01\x01a\xc0\xff\xff\xff" + one[7:],
		"\x01\x01a\x00\x00\x00\x40" + one[7:], "\x01\x01a\x21\x4e\x00\x00\x01\x03\x00\x39\x01", "\x01\x01a\x40\x00\x00\x80" + one[7:],

		// How many spans, and what they are.
		"\x01\x01a\x40\x00\x00\x00\x00" + one[8:], "\x01\x01a\x40\x00\x00\x00\x02" + one[8:], "\x01\x01a\x40\x00\x00\x00\xff" + one[8:], "\x01\x01a\x00\x00\x00\x00\x01", "\x01\x01a\x00\x00\x00\x00\xff", "\x01\x01a\x40\x00\x00\x00\x00",
		one[:8] + "\x05\x00\x00\x00", one[:8] + "\x05\x00\x02\x00", one[:8] + "\x00\x05\x00\x01", one[:8] + "\x00\x20\x01\x00", one[:8] + "\xff\xff\x01\x00", one[:8] + "\xff\xff\xff\xff", one[:8] + "\x05\x00\x01\x01", one[:8] + "\x05\x00\x01", one[:8] + "\x05\x00\x01\x00\x00",
		"\x01\x01a\x80\x00\x00\x00\x02\x06\x00\x01\x00\x04\x00\x01\x00", "\x01\x01a\x80\x00\x00\x00\x02\x04\x00\x01\x00\x05\x00\x01\x00", "\x01\x01a\x80\x00\x00\x00\x02\x04\x00\x01\x00\x04\x00\x01\x00",

		// Two files, one too few and one too many; alike, and out of their order.
		"\x01\x01a\x00\x00\x00\x00\x00\x01b\x00\x00\x00\x00\x00", "\x03\x01a\x00\x00\x00\x00\x00\x01b\x00\x00\x00\x00\x00", "\x02\x01a\x00\x00\x00\x00\x00\x01a\x00\x00\x00\x00\x00", "\x02\x01b\x00\x00\x00\x00\x00\x01a\x00\x00\x00\x00\x00",
		"\x02\x01a\x00\x00\x00\x00\x00\x01b\x00\x00\x00\x00", "\x02\x01a\x00\x00\x00\x00\x00", "\x02\x01a\x00\x00\x00\x00\x00\x01", "\x02\x01a\x00\x00\x00\x00\x00\x00\x00\x00\x00\x00\x00",
	} {
		refused(t, sealed([]byte(s)), api.ErrForm)
	}
}

// againstWords holds Take of sealed bytes against the chapter's words.
func againstWords(t *testing.T, b []byte) (whole bool) {
	t.Helper()
	want, whole := directoryOf(b)
	wantErr := api.OK
	if !whole {
		wantErr = api.ErrForm
	}
	if l, e := dir.Take(sealed(b)); e != wantErr || !alike(l, want) {
		t.Fatalf("Take of sealed %q: %v %d, not %v %d", b, l, e, want, wantErr)
	}
	return whole
}

func TestI3TakeOfEachByte(t *testing.T) {
	for _, l := range directories() {
		good := textOf(l)
		if len(good) > 200 {
			continue
		}
		for i := range good {
			for b := range 256 {
				other := slices.Clone(good)
				other[i] = byte(b)
				againstWords(t, other)
			}
			againstWords(t, slices.Delete(slices.Clone(good), i, i+1))
			againstWords(t, slices.Insert(slices.Clone(good), i, good[i]))
		}
	}
}

func TestI3TakeByChance(t *testing.T) {
	chance := rand.New(rand.NewSource(3))
	wholes := 0
	for range 60000 {
		b := textOf(chanceDirectory(chance, 4))
		for range 1 + chance.Intn(3) {
			// Few numbers, so that some of it is a directory by chance.
			b[chance.Intn(len(b))] = byte(chance.Intn(6)) + byte(chance.Intn(2)*'a')
		}
		if againstWords(t, b) {
			wholes++
		}
	}
	if wholes < 500 {
		t.Error("of the texts only", wholes, "are directories")
	}
	for range 20000 {
		b := make([]byte, chance.Intn(60))
		chance.Read(b)
		againstWords(t, b)
		for i := range b {
			b[i] %= 3
		}
		againstWords(t, b)
	}
}

func TestI4TakeOfPut(t *testing.T) {
	ls := directories()
	chance := rand.New(rand.NewSource(4))
	for range 5000 {
		ls = append(ls, chanceDirectory(chance, 1+chance.Intn(30)))
	}
	for _, l := range ls {
		s := put(t, l)
		got, e := dir.Take(s)
		if !alike(got, l) || e != api.OK {
			t.Fatalf("Take of Put(%v): %v %d", l, got, e)
		}
		if s != bytesOf(l) || put(t, got) != s {
			t.Fatalf("Put(%v): %q", l, s)
		}
	}
}

func TestI4PutOfTake(t *testing.T) {
	chance := rand.New(rand.NewSource(5))
	for range 5000 {
		s := bytesOf(chanceDirectory(chance, 9))
		l, e := dir.Take(s)
		if again := put(t, l); e != api.OK || again != s {
			t.Fatalf("Put of Take(%q): %q %d", s, again, e)
		}
	}
}

func TestI4WithAndWithout(t *testing.T) {
	chance := rand.New(rand.NewSource(6))
	for range 5000 {
		l := chanceDirectory(chance, 20)
		byName := mapped(l)
		for range 10 {
			name := chanceName(chance)
			f := chanceFile(chance, name)
			if chance.Intn(3) > 0 {
				l = dir.With(l, f)
				byName[name] = f
			} else {
				l = dir.Without(l, name)
				delete(byName, name)
			}
			// The one, and all others.
			want, there := byName[name]
			if got, ok := dir.Find(l, name); ok != there || !same(got, want) {
				t.Fatalf("Find(%v, %q): %v %v", l, name, got, ok)
			}
			if !alike(l, listed(byName)) {
				t.Fatalf("%v, not %v", l, listed(byName))
			}
		}
		if s, e := dir.Put(l); s != bytesOf(listed(byName)) || e != api.OK {
			t.Fatalf("Put(%v): %q %d", l, s, e)
		}
	}
}

// roomy is rows with more behind their lengths, of which nothing is a call's business.
func roomy(l []dir.File) []dir.File {
	var all []dir.File
	for _, f := range deep(l) {
		many := len(f.Spans)
		f.Spans = append(f.Spans, row(-1, -1, 77, 7)...)[:many]
		all = append(all, f)
	}
	return append(all, of("behind", -1, -1, -1))[:len(l)]
}

// unroomed tells whether all that lies behind the lengths is as it was.
func unroomed(l []dir.File) bool {
	for _, f := range l {
		if !slices.Equal(f.Spans[len(f.Spans):len(f.Spans)+2], row(-1, -1, 77, 7)) {
			return false
		}
	}
	return same(l[:len(l)+1][len(l)], of("behind", -1, -1, -1))
}

func TestNothingHandedInIsChanged(t *testing.T) {
	for _, l := range slices.Concat(directories(), none()) {
		given := roomy(l)
		own := row(5, 1, 3, 1, -1, -1)[:2]
		file := of("b", 64, 7, 1, -1, -1)
		file.Spans = file.Spans[:1]
		dir.Find(given, "b")
		dir.Find(given, "a")
		dir.With(given, file)
		dir.With(given, of("a", 9))
		dir.With(given, of("zz", 9))
		dir.Without(given, "a")
		dir.Without(given, "b")
		dir.Used(given)
		dir.Right(given, most, own)
		dir.Put(given)
		if !alike(given, l) || !unroomed(given) {
			t.Errorf("of %v: %v", l, given)
		}
		if !slices.Equal(own[:3], row(5, 1, 3, 1, -1, -1)) || !slices.Equal(file.Spans[:2], row(7, 1, -1, -1)) {
			t.Error(own[:3], file.Spans[:2])
		}
	}
}

// spoil changes all of a row, within it and behind its length.
func spoil(l []dir.File) {
	for i := range l {
		for j := range l[i].Spans {
			l[i].Spans[j] = api.Span{At: -9, Many: -9}
		}
		_ = append(l[i].Spans, api.Span{At: -8, Many: -8})
		l[i] = of("spoilt", -9)
	}
	_ = append(l, of("spoilt", -8))
}

func TestNothingHandedInIsKept(t *testing.T) {
	l := []dir.File{of("a", 64, 2, 1), of("c", 128, 3, 1, 9, 1)}
	for _, call := range []func(l []dir.File, f dir.File) []dir.File{
		dir.With,
		func(l []dir.File, f dir.File) []dir.File { return dir.With(l, of("c", 64, 7, 1)) },
		func(l []dir.File, f dir.File) []dir.File { return dir.With(l, of("d", 0)) },
		func(l []dir.File, f dir.File) []dir.File { return dir.Without(l, "a") },
		func(l []dir.File, f dir.File) []dir.File { return dir.Without(l, "z") },
		func(l []dir.File, f dir.File) []dir.File { g, _ := dir.Find(l, "c"); return []dir.File{g} },
		func(l []dir.File, f dir.File) []dir.File { return []dir.File{spread("", 0, dir.Used(l))} },
	} {
		given, file := deep(l), of("b", 64, 5, 1)
		got := call(given, file)
		want := deep(got)
		spoil(given)
		spoil([]dir.File{file})
		if !alike(got, want) {
			t.Errorf("%v, then %v", want, got)
		}
	}
}

func TestAnswersAreNew(t *testing.T) {
	l := roomy([]dir.File{of("a", 64, 2, 1), of("c", 128, 3, 1, 9, 1), of("d", 0)})
	was := deep(l)
	shared := row(5, 1, 8, 1, -1, -1)[:2]
	given := spread("b", 128, shared)
	s := bytesOf(l)
	for i, call := range []func() []dir.File{
		func() []dir.File { return dir.With(l, given) },
		func() []dir.File { return dir.With(l, spread("c", 128, shared)) },
		func() []dir.File { return dir.With(l, spread("z", 128, shared)) },
		func() []dir.File { return dir.With(l, spread("0", 128, shared)) },
		func() []dir.File { return dir.Without(l, "a") },
		func() []dir.File { return dir.Without(l, "d") },
		func() []dir.File { return dir.Without(l, "none") },
		func() []dir.File { f, _ := dir.Find(l, "c"); return []dir.File{f} },
		func() []dir.File { return []dir.File{spread("", 0, dir.Used(l))} },
		func() []dir.File { return []dir.File{spread("", 0, dir.Used(l[1:2]))} },
		func() []dir.File { k, _ := dir.Take(s); return k },
	} {
		got := call()
		want := deep(got)
		spoil(got)
		if !alike(l, was) || !unroomed(l) || !slices.Equal(shared[:3], row(5, 1, 8, 1, -1, -1)) {
			t.Fatalf("%d: handed in: %v %v", i, l, shared)
		}
		if again := call(); !alike(again, want) {
			t.Errorf("%d: %v, then %v", i, want, again)
		}
	}
}

func TestNoTwoListsOfAnAnswerShare(t *testing.T) {
	// The file put in has the spans of one that is there, and two that are there have one another's.
	spans := row(2, 1, 4, 1)
	l := []dir.File{spread("a", 128, spans), spread("b", 128, spans), spread("d", 128, spans[:1]), spread("e", 64, spans[:1])}
	taken, _ := dir.Take(bytesOf([]dir.File{of("a", 64, 2, 1), of("b", 192, 3, 1, 7, 2), of("c", 0), of("d", 64, 5, 1)}))
	for _, got := range [][]dir.File{dir.With(l, spread("c", 128, spans)), dir.With(l, spread("b", 128, spans)), dir.Without(l, "d"), dir.Without(l, "z"), taken} {
		for i := range got {
			want := deep(got)
			_ = append(got[i].Spans, api.Span{At: -1, Many: -1})
			for j := range got[i].Spans {
				got[i].Spans[j] = api.Span{At: 100 + i, Many: j}
				want[i].Spans[j] = api.Span{At: 100 + i, Many: j}
			}
			if !alike(got, want) {
				t.Fatalf("of %d: %v, not %v", i, got, want)
			}
		}
	}
	if !slices.Equal(spans, row(2, 1, 4, 1)) {
		t.Error(spans)
	}
}

func TestTheSameAgain(t *testing.T) {
	// No call hangs on those ahead of it, be they of errors or not.
	ls := slices.Concat(directories(), none())
	type told struct {
		text  string
		e     api.Errno
		right bool
		found bool
		with  []dir.File
	}
	tell := func(l []dir.File) told {
		s, e := dir.Put(l)
		_, found := dir.Find(l, "a")
		return told{s, e, dir.Right(l, 600, row(599, 1)), found, dir.With(l, of("m", 3))}
	}
	var first []told
	for _, l := range ls {
		first = append(first, tell(l))
	}
	for i := len(ls) - 1; i >= 0; i-- {
		got := tell(ls[i])
		if got.text != first[i].text || got.e != first[i].e || got.right != first[i].right || got.found != first[i].found || !alike(got.with, first[i].with) {
			t.Errorf("of %v: %v, then %v", ls[i], first[i], got)
		}
	}
}

func TestAnyRowEnds(t *testing.T) {
	numbers := []int{math.MinInt, math.MinInt + 1, -64, -1, 0, 1, 2, 64, mostBytes, most, 1 << 16, 1 << 32, 1 << 62, math.MaxInt - 1, math.MaxInt}
	for _, size := range numbers {
		for _, at := range numbers {
			for _, many := range numbers {
				f := of("a", size, at, many)
				l := []dir.File{f}
				if s, e := dir.Put(l); (e == api.OK) != wellByWords(f) || e != api.OK && (s != "" || e != api.ErrArg) {
					t.Fatalf("Put(%v): %q %d", l, s, e)
				}
				if dir.Right(l, most, nil) != rightByWords(l, most, nil) || dir.Right(nil, size, row(at, many)) != rightByWords(nil, size, row(at, many)) {
					t.Fatalf("Right(%v)", l)
				}
				if k := dir.With(dir.With(nil, f), f); !alike(k, l) || len(dir.Without(k, "a")) != 0 || !slices.Equal(dir.Used(k), f.Spans) {
					t.Fatalf("With %v: %v", f, k)
				}
			}
		}
	}
	// Rows that are no directories: some answer.
	for _, l := range append(none(), slices.Repeat(files(3), 10000), slices.Repeat([]dir.File{{}}, 100000)) {
		dir.With(l, of("001", 0))
		dir.With(l, dir.File{})
		dir.Without(l, "001")
		dir.Without(l, "")
		dir.Find(l, "none")
		dir.Used(l)
		if dir.Right(l, most, nil) {
			t.Errorf("Right(%v)", l)
		}
		if s, e := dir.Put(l); s != "" || e != api.ErrArg {
			t.Errorf("Put(%v): %q %d", l, s, e)
		}
	}
	if dir.Right(nil, most, slices.Repeat(row(2, 1), 1000000)) || dir.Right([]dir.File{spread("a", 64, slices.Repeat(row(2, 1), 1000000))}, most, nil) {
		t.Error("a long row")
	}
	refused(t, sealed(bytes.Repeat([]byte{0xff}, 1<<22)), api.ErrForm)
	refused(t, sealed(bytes.Repeat([]byte{1}, 1<<22)), api.ErrForm)
}
