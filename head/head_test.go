package head_test

import (
	"encoding/binary"
	"hash/crc32"
	"math"
	"math/rand"
	"slices"
	"strings"
	"testing"

	"rootcellar/api"
	"rootcellar/head"
)

// The chapter's own numbers, so that other ones of the program would be seen.
const (
	most   = 8192 // sectors
	sector = 64   // bytes
	greats = math.MaxUint64
)

// row is spans, each by its first sector and how many it has.
func row(numbers ...int) []api.Span {
	var l []api.Span
	for i := 0; i+1 < len(numbers); i += 2 {
		l = append(l, api.Span{At: numbers[i], Many: numbers[i+1]})
	}
	return l
}

// singles is so many spans of one sector, as low as they may lie.
func singles(many int) []api.Span {
	var l []api.Span
	for i := range many {
		l = append(l, api.Span{At: 2 + 2*i, Many: 1})
	}
	return l
}

func of(gen uint64, sectors, size int, spans ...int) head.Head {
	return head.Head{Gen: gen, Sectors: sectors, Size: size, Spans: row(spans...)}
}

func with(sectors, size int, l []api.Span) head.Head {
	return head.Head{Gen: 5, Sectors: sectors, Size: size, Spans: l}
}

func same(a, b head.Head) bool {
	return a.Gen == b.Gen && a.Sectors == b.Sectors && a.Size == b.Size && slices.Equal(a.Spans, b.Spans)
}

// heads is right ones.
func heads() []head.Head {
	return []head.Head{
		// Of no sector.
		of(0, 2, 0), of(1, 2, 0), of(7, 9, 0), of(greats, most, 0), of(256, 3, 0), of(1<<63, 257, 0),
		{Gen: 1, Sectors: 9, Spans: []api.Span{}},

		// Sizes at the bounds of one sector, and of more.
		of(1, 9, 1, 2, 1), of(1, 9, 2, 2, 1), of(1, 9, 63, 2, 1), of(1, 9, 64, 2, 1),
		of(1, 9, 65, 2, 2), of(1, 9, 127, 2, 2), of(1, 9, 128, 2, 2), of(1, 9, 129, 2, 3),
		of(1, 9, 65, 2, 1, 4, 1), of(1, 9, 128, 4, 1, 8, 1),

		// Spans at the bounds of the device.
		of(1, 3, 64, 2, 1), of(1, 4, 128, 2, 2), of(1, 9, 64, 8, 1), of(1, 9, 7*64, 2, 7), of(1, 9, 6*64+1, 2, 7),
		of(1, most, 64, most-1, 1), of(2, most, 8190*64, 2, 8190), of(2, most, 8189*64+1, 2, 8190), of(2, most-1, 8189*64, 2, 8189),

		// 7 and 8 spans, and numbers whose both bytes count.
		with(99, 7*64, singles(7)), with(99, 8*64, singles(8)), with(17, 8*64, singles(8)), with(17, 7*64+1, singles(8)),
		of(258, 300, 65, 260, 2), of(0x0807060504030201, 0x1234, 0x1f0*64, 0x102, 0xff, 0x203, 0xf1),
		of(greats, most, 8*64, 2, 1, 259, 1, 516, 1, 773, 1, 1030, 1, 1287, 1, 1544, 1, 1801, 1),
		of(greats-1, most, 8183*64, 2, 1, 4, 1, 6, 1, 8, 1, 10, 1, 12, 1, 14, 1, 16, most-16),
	}
}

// none is heads that are not right.
func none() []head.Head {
	const huge = math.MaxInt
	return []head.Head{
		{}, // of 0 sectors

		// Sectors.
		of(1, 1, 0), of(1, 0, 0), of(1, -1, 0), of(1, -9, 0), of(1, most+1, 0), of(1, 2*most, 0), of(1, 1<<16+9, 0),
		of(1, 1<<16, 0), of(1, 1<<32+9, 0), of(1, huge, 0), of(1, math.MinInt, 0), of(1, most+1, 64, 2, 1), of(1, 1, 64, 2, 1),

		// How many spans.
		with(99, 9*64, singles(9)), with(most, 4000*64, singles(4000)), with(most, 264*64, singles(264)),
		with(99, 8*64, append(singles(8), api.Span{})), with(99, 8*64, singles(9)),

		// Rows that are not right for the sectors: beyond them, of nothing, out of order, touching, twice there.
		of(1, 9, 64, 9, 1), of(1, 9, 128, 8, 2), of(1, 9, 8*64, 2, 8), of(1, 2, 64, 2, 1), of(1, 9, 64, 10, 1),
		of(1, most, 64, most, 1), of(1, most, 8191*64, 2, 8191),
		of(1, 9, 0, 2, 0), of(1, 9, 0, 2, -1), of(1, 9, 64, 2, 1, 4, 0), of(1, 9, 0, 4, 0, 6, 0), of(1, 9, 64, 4, 0, 6, 1),
		of(1, 9, 128, 4, 1, 2, 1), of(1, 9, 128, 2, 1, 3, 1), of(1, 9, 192, 2, 2, 4, 1), of(1, 9, 128, 2, 1, 2, 1),
		of(1, 9, 192, 2, 2, 3, 1), of(1, 9, 64, 2, 2, 5, -1), of(1, 9, 64, 1<<16+2, 1), of(1, 9, 64, -1, 1),
		of(1, 9, 64, -65534, 1), of(1, 9, huge, 2, huge), of(1, 9, 64, huge, 1), of(1, 9, 64, math.MinInt, 1),
		of(1, 9, 0, 2, math.MinInt), of(1, 9, math.MinInt, 2, math.MinInt), of(1, 9, 64, 2, 1<<16+1),

		// Sectors of the heads themselves.
		of(1, 9, 64, 0, 1), of(1, 9, 64, 1, 1), of(1, 9, 128, 0, 2), of(1, 9, 128, 1, 2), of(1, 9, 192, 0, 3), of(1, 9, 9*64, 0, 9),
		of(1, 9, 128, 0, 1, 3, 1), of(1, 9, 128, 1, 1, 3, 1), of(1, 9, 128, 0, 1, 2, 1), of(1, 2, 64, 0, 1), of(1, 2, 64, 1, 1),

		// Sizes that need fewer sectors, or more.
		of(1, 9, -1), of(1, 9, -63), of(1, 9, -64), of(1, 9, -65), of(1, 9, -1, 2, 1), of(1, 9, -64, 2, 1), of(1, 9, math.MinInt), of(1, 9, math.MinInt, 2, 1),
		of(1, 9, 1), of(1, 9, 63), of(1, 9, 64), of(1, 9, 65), of(1, 9, 0, 2, 1),
		of(1, 9, 65, 2, 1), of(1, 9, 128, 2, 1), of(1, 9, 64, 2, 2), of(1, 9, 63, 2, 2), of(1, 9, 129, 2, 2), of(1, 9, 128, 2, 3),
		of(1, 9, 64, 2, 1, 4, 1), of(1, 9, 129, 2, 1, 4, 1), with(99, 7*64, singles(8)), with(99, 8*64+1, singles(8)),
		of(1, most, 8190*64+1, 2, 8190), of(1, most, 8189*64, 2, 8190),
		of(1, 9, 1<<32), of(1, 9, 1<<32+64, 2, 1), of(1, 9, huge), of(1, 9, huge, 2, 1), of(1, 9, huge-62), of(1, 9, 1<<62, 2, 7),
	}
}

// rightByWords is H1's words, sector by sector.
func rightByWords(h head.Head) bool {
	if h.Sectors < 2 || h.Sectors > 8192 || len(h.Spans) > 8 || h.Size < 0 {
		return false
	}
	in, last := 0, 0 // sector 1 is no span's, and one that begins at 2 needs no gap ahead
	for _, s := range h.Spans {
		if s.Many < 1 || s.At < 2 || s.At >= h.Sectors || s.Many > h.Sectors || last > 0 && s.At-last < 2 {
			return false
		}
		for range s.Many {
			in++
		}
		last = s.At + s.Many - 1
	}
	return last < h.Sectors && (in-1)*64 < h.Size && h.Size <= in*64
}

// sealed is bytes, noughts up to 60, and their sum.
func sealed(b []byte) string {
	b = append(b, make([]byte, max(0, 60-len(b)))...)
	return string(binary.LittleEndian.AppendUint32(b, crc32.ChecksumIEEE(b)))
}

// bytesOf is the bytes of a head that is right, by the library's means.
func bytesOf(h head.Head) string {
	b := []byte("rtcl")
	b = binary.LittleEndian.AppendUint64(b, h.Gen)
	b = binary.LittleEndian.AppendUint16(b, uint16(h.Sectors))
	b = binary.LittleEndian.AppendUint32(b, uint32(h.Size))
	b = append(b, byte(len(h.Spans)))
	for _, s := range h.Spans {
		b = binary.LittleEndian.AppendUint16(b, uint16(s.At))
		b = binary.LittleEndian.AppendUint16(b, uint16(s.Many))
	}
	return sealed(b)
}

// headOf is H2's words of a text of 64 bytes whose sum is right.
func headOf(s string) (head.Head, api.Errno) {
	b := []byte(s)
	many := int(b[18])
	if string(b[:4]) != "rtcl" || many > 8 {
		return head.Head{}, api.ErrForm
	}
	h := head.Head{
		Gen:     binary.LittleEndian.Uint64(b[4:]),
		Sectors: int(binary.LittleEndian.Uint16(b[12:])),
		Size:    int(binary.LittleEndian.Uint32(b[14:])),
	}
	for i := range many {
		at := 19 + 4*i
		h.Spans = append(h.Spans, api.Span{At: int(binary.LittleEndian.Uint16(b[at:])), Many: int(binary.LittleEndian.Uint16(b[at+2:]))})
	}
	for _, rest := range b[19+4*many : 60] {
		if rest != 0 {
			return head.Head{}, api.ErrForm
		}
	}
	if !rightByWords(h) {
		return head.Head{}, api.ErrForm
	}
	return h, api.OK
}

// put is the bytes of a head that must be right.
func put(t *testing.T, h head.Head) string {
	t.Helper()
	s, e := head.Put(h)
	if e != api.OK || len(s) != sector {
		t.Fatalf("Put(%v): %q %d", h, s, e)
	}
	return s
}

// refused holds Take of a text against an error, and against the nothing that must be told with it.
func refused(t *testing.T, s string, want api.Errno) {
	t.Helper()
	if h, e := head.Take(s); e != want || !same(h, head.Head{}) {
		t.Errorf("Take(%q): %v %d, not %d", s, h, e, want)
	}
}

func TestExamples(t *testing.T) {
	a, b := put(t, of(7, 9, 64, 2, 1)), put(t, of(8, 9, 64, 4, 1))
	if h, at, e := head.Choose(a, b); !same(h, of(8, 9, 64, 4, 1)) || at != 1 || e != api.OK {
		t.Error(h, at, e)
	}
	for i := range b {
		wrong := b[:i] + string([]byte{b[i] + 1}) + b[i+1:]
		if h, at, e := head.Choose(a, wrong); !same(h, of(7, 9, 64, 2, 1)) || at != 0 || e != api.OK {
			t.Error(i, h, at, e)
		}
	}
}

func TestLimits(t *testing.T) {
	if head.MaxSpans != 8 || head.Slots != 2 {
		t.Error(head.MaxSpans, head.Slots)
	}
}

func TestH1Right(t *testing.T) {
	for _, h := range heads() {
		if !rightByWords(h) {
			t.Fatalf("the tests' own words of %v", h)
		}
		if !head.Right(h) {
			t.Errorf("Right(%v): false", h)
		}
	}
	for _, h := range none() {
		if rightByWords(h) {
			t.Fatalf("the tests' own words of %v", h)
		}
		if head.Right(h) {
			t.Errorf("Right(%v): true", h)
		}
	}
}

func TestH1RightOfEachGen(t *testing.T) {
	for _, gen := range []uint64{0, 1, 255, 256, 1<<32 - 1, 1 << 32, 1<<63 - 1, 1 << 63, greats - 1, greats} {
		if !head.Right(of(gen, 9, 64, 2, 1)) || head.Right(of(gen, 9, 65, 2, 1)) {
			t.Error(gen)
		}
	}
}

func TestH1RightOfEachNumberOfSectors(t *testing.T) {
	for sectors := -10; sectors < most+10; sectors++ {
		for _, h := range []head.Head{of(1, sectors, 0), of(1, sectors, 64, 5, 1), of(1, sectors, (sectors-2)*64, 2, sectors-2)} {
			if got, want := head.Right(h), rightByWords(h); got != want {
				t.Fatalf("Right(%v): %v", h, got)
			}
		}
	}
}

func TestH1RightOfEachSize(t *testing.T) {
	for many := range 9 {
		// As one span, and as so many.
		one, each := with(99, 0, row(3, many)), with(99, 0, singles(many))
		if many == 0 {
			one.Spans = nil
		}
		for size := -200; size < 800; size++ {
			one.Size, each.Size = size, size
			want := size >= 0 && size > (many-1)*64 && size <= many*64
			if head.Right(one) != want || head.Right(each) != want {
				t.Fatalf("%d bytes in %d sectors: not %v", size, many, want)
			}
		}
	}
}

func TestH1RightOfEachSpan(t *testing.T) {
	for at := -3; at < 12; at++ {
		for many := -3; many < 12; many++ {
			for next := -3; next < 12; next++ {
				for nextMany := -1; nextMany < 5; nextMany++ {
					h := of(1, 9, max(0, many+nextMany)*64, at, many, next, nextMany)
					if got, want := head.Right(h), rightByWords(h); got != want {
						t.Fatalf("Right(%v): %v", h, got)
					}
				}
			}
		}
	}
}

func TestH1PutKnown(t *testing.T) {
	for _, c := range []struct {
		h    head.Head
		want string
		sum  string
	}{
		{of(0, 2, 0), "rtcl\x00\x00\x00\x00\x00\x00\x00\x00\x02\x00\x00\x00\x00\x00\x00", "\xd7\xca\xcd\x4e"},
		{of(7, 9, 0), "rtcl\x07\x00\x00\x00\x00\x00\x00\x00\x09\x00\x00\x00\x00\x00\x00", "\x37\xe4\x0a\x6e"},
		{of(258, 300, 65, 260, 2), "rtcl\x02\x01\x00\x00\x00\x00\x00\x00\x2c\x01\x41\x00\x00\x00\x01\x04\x01\x02\x00", "\x9c\x83\xc1\x8c"},
		{of(0x0807060504030201, most, 8190*64, 2, 8190), "rtcl\x01\x02\x03\x04\x05\x06\x07\x08\x00\x20\x80\xff\x07\x00\x01\x02\x00\xfe\x1f", "\x30\x4d\xb0\xbb"},
		{of(greats, most, 8*64, 2, 1, 259, 1, 516, 1, 773, 1, 1030, 1, 1287, 1, 1544, 1, 1801, 1), "rtcl\xff\xff\xff\xff\xff\xff\xff\xff\x00\x20\x00\x02\x00\x00\x08" +
			"\x02\x00\x01\x00\x03\x01\x01\x00\x04\x02\x01\x00\x05\x03\x01\x00\x06\x04\x01\x00\x07\x05\x01\x00\x08\x06\x01\x00\x09\x07\x01\x00", "\xd9\x57\x93\x3f"},
	} {
		want := c.want + strings.Repeat("\x00", 60-len(c.want)) + c.sum
		if got := put(t, c.h); got != want {
			t.Errorf("Put(%v): %q, not %q", c.h, got, want)
		}
	}
}

func TestH1PutOfEachHead(t *testing.T) {
	for _, h := range heads() {
		if got, want := put(t, h), bytesOf(h); got != want {
			t.Errorf("Put(%v): %q, not %q", h, got, want)
		}
	}
	for _, h := range none() {
		if s, e := head.Put(h); s != "" || e != api.ErrArg {
			t.Errorf("Put(%v): %q %d", h, s, e)
		}
	}
}

func TestH2TakeOfLengths(t *testing.T) {
	good := bytesOf(of(2, 9, 64, 4, 1))
	text := good[:60]
	sums := func(s string) string {
		return s + string(binary.LittleEndian.AppendUint32(nil, crc32.ChecksumIEEE([]byte(s))))
	}
	for _, s := range []string{
		"", "r", "rtcl", good[:60], good[:63], good[1:], good + "\x00", "\x00" + good, good + good, strings.Repeat("\x00", 63), strings.Repeat("\x00", 65),
		sums(text[:59]), sums(text + "\x00"), sums(""), sums(text[:19]), strings.Repeat("x", 1<<20), // sums that are right
	} {
		refused(t, s, api.ErrArg)
	}
	for n := range 130 {
		if n != sector {
			refused(t, strings.Repeat("\x00", n), api.ErrArg)
			refused(t, (good + good + good)[:n], api.ErrArg)
		}
	}
	if h, e := head.Take(good); !same(h, of(2, 9, 64, 4, 1)) || e != api.OK {
		t.Error(h, e)
	}
}

func TestH2TakeOfAnotherSum(t *testing.T) {
	for _, h := range heads() {
		good := bytesOf(h)
		for i := range good {
			for _, by := range []byte{1, 2, 0x80, 0xff} {
				refused(t, good[:i]+string([]byte{good[i] ^ by})+good[i+1:], api.ErrSum)
			}
		}
	}
	// The sum comes first, whatever else is wrong.
	for _, s := range []string{strings.Repeat("\x00", 64), strings.Repeat("\xff", 64), strings.Repeat("rtcl", 16)} {
		refused(t, s, api.ErrSum)
	}
	form := sealed([]byte("rtcm"))
	refused(t, form, api.ErrForm)
	refused(t, form[:63]+string([]byte{form[63] ^ 1}), api.ErrSum)
}

func TestH2TakeOfNoHead(t *testing.T) {
	const gen, sectors, size = "\x02\x00\x00\x00\x00\x00\x00\x00", "\x09\x00", "\x40\x00\x00\x00"
	const good = "rtcl" + gen + sectors + size + "\x01\x04\x00\x01\x00"
	if h, e := head.Take(sealed([]byte(good))); !same(h, of(2, 9, 64, 4, 1)) || e != api.OK {
		t.Fatal(h, e)
	}
	nine := "\x09"
	for _, s := range singles(9) {
		nine += string([]byte{byte(s.At), 0, 1, 0})
	}
	for _, s := range []string{
		"", "RTCL" + good[4:], "xtcl" + good[4:], "rtcm" + good[4:], "\x00\x00\x00\x00" + good[4:], good[4:], "lctr" + good[4:], "rtc" + good[4:], "rtcll" + good[4:],

		// Sectors 0, 1, 8193, and the greatest number; fewer than the span has.
		"rtcl" + gen + "\x00\x00" + size + "\x01\x04\x00\x01\x00", "rtcl" + gen + "\x00\x00\x00\x00\x00\x00\x00", "rtcl" + gen + "\x01\x00\x00\x00\x00\x00\x00",
		"rtcl" + gen + "\x01\x20" + size + "\x01\x04\x00\x01\x00", "rtcl" + gen + "\xff\xff" + size + "\x01\x04\x00\x01\x00", "rtcl" + gen + "\x04\x00" + size + "\x01\x04\x00\x01\x00",
		"rtcl" + gen + "\x00\x09" + size, // the highest byte first

		// Sizes of more sectors, and of fewer.
		"rtcl" + gen + sectors + "\x00\x00\x00\x00\x01\x04\x00\x01\x00", "rtcl" + gen + sectors + "\x41\x00\x00\x00\x01\x04\x00\x01\x00", "rtcl" + gen + sectors + "\x40\x00\x00\x01\x01\x04\x00\x01\x00",
		"rtcl" + gen + sectors + "\xff\xff\xff\xff\x01\x04\x00\x01\x00", "rtcl" + gen + sectors + "\xc0\xff\xff\xff\x01\x04\x00\x01\x00",

		// Fewer spans than are told, and more.
		"rtcl" + gen + sectors + size, "rtcl" + gen + sectors + size + "\x02\x04\x00\x01\x00", "rtcl" + gen + sectors + size + "\x00\x04\x00\x01\x00", "rtcl" + gen + sectors + size + "\x09\x04\x00\x01\x00",
		"rtcl" + gen + sectors + size + "\xff\x04\x00\x01\x00", "rtcl" + gen + sectors + "\x00\x00\x00\x00\x01", "rtcl" + gen + sectors + "\x00\x00\x00\x00\xff",
		"rtcl" + gen + "\x63\x00\x40\x02\x00\x00" + nine, "rtcl" + gen + "\x63\x00\x00\x02\x00\x00\x08" + nine[1:],

		// Spans of the slots, of nothing, out of range, out of order, touching, twice there.
		"rtcl" + gen + sectors + size + "\x01\x00\x00\x01\x00", "rtcl" + gen + sectors + size + "\x01\x01\x00\x01\x00", "rtcl" + gen + sectors + size + "\x01\x04\x00\x00\x00",
		"rtcl" + gen + sectors + size + "\x01\x09\x00\x01\x00", "rtcl" + gen + sectors + size + "\x01\x04\x01\x01\x00", "rtcl" + gen + sectors + size + "\x01\x04\x00\x01\x01", "rtcl" + gen + sectors + size + "\x01\xff\xff\xff\xff",
		"rtcl" + gen + sectors + "\x80\x00\x00\x00\x02\x06\x00\x01\x00\x04\x00\x01\x00", "rtcl" + gen + sectors + "\x80\x00\x00\x00\x02\x04\x00\x01\x00\x05\x00\x01\x00", "rtcl" + gen + sectors + "\x80\x00\x00\x00\x02\x04\x00\x01\x00\x04\x00\x01\x00",

		// More behind the spans than noughts.
		good + "\x01", good + "\x00\x01", good + strings.Repeat("\x00", 36) + "\x01", good + strings.Repeat("\x00", 20) + "\xff", good + strings.Repeat(" ", 37),
		good + "\x06\x00\x01\x00", "rtcl" + gen + sectors + "\x00\x00\x00\x00\x00" + strings.Repeat("\x00", 40) + "\x80",
	} {
		refused(t, sealed([]byte(s)), api.ErrForm)
	}
	// Where 8 spans end, there is room still.
	full := []byte(bytesOf(with(99, 8*64, singles(8)))[:60])
	for i := 51; i < 60; i++ {
		b := slices.Clone(full)
		b[i] = 1
		refused(t, sealed(b), api.ErrForm)
	}
}

// againstWords holds Take of sealed bytes against the chapter's words.
func againstWords(t *testing.T, s string) {
	t.Helper()
	want, wantErr := headOf(s)
	if h, e := head.Take(s); e != wantErr || !same(h, want) {
		t.Fatalf("Take(%q): %v %d, not %v %d", s, h, e, want, wantErr)
	}
}

func TestH2TakeOfEachByte(t *testing.T) {
	for _, h := range heads() {
		good := []byte(bytesOf(h)[:60])
		for i := range good {
			for b := range 256 {
				other := slices.Clone(good)
				other[i] = byte(b)
				againstWords(t, sealed(other))
			}
		}
	}
}

func TestH2TakeByChance(t *testing.T) {
	chance := rand.New(rand.NewSource(6))
	hs := heads()
	for range 50000 {
		b := []byte(bytesOf(hs[chance.Intn(len(hs))])[:60])
		for range 1 + chance.Intn(4) {
			// Few numbers, at few places, so that some of it is a head by chance.
			b[4+chance.Intn(32)] = byte(chance.Intn(12))
		}
		againstWords(t, sealed(b))
	}
	for range 5000 {
		b := make([]byte, 60)
		chance.Read(b)
		againstWords(t, sealed(b))
		copy(b, "rtcl")
		againstWords(t, sealed(b))
	}
}

func TestH2Choose(t *testing.T) {
	// Of each Gen one in each place, not alike but for their Gens.
	gens := []uint64{0, 1, 2, 7, 8, 255, 256, 1<<32 - 1, 1 << 32, 1<<63 - 1, 1 << 63, greats - 1, greats}
	for _, m := range gens {
		for _, n := range gens {
			first, second := of(m, 9, 64, 2, 1), of(n, 99, 65, 4, 2)
			want, slot := first, 0
			if n > m {
				want, slot = second, 1
			}
			if h, at, e := head.Choose(bytesOf(first), bytesOf(second)); !same(h, want) || at != slot || e != api.OK {
				t.Errorf("Choose of %d and %d: %v %d %d", m, n, h, at, e)
			}
		}
	}
}

// wrongs is texts of which Take errs, in each of its ways.
func wrongs() []string {
	good := bytesOf(of(9, 9, 64, 4, 1))
	return []string{"", good[:63], good + "\x00", good[:63] + "q", strings.Repeat("\x00", 64), sealed([]byte("xtcl" + good[4:60])), sealed([]byte(good[:59] + "\x01")), sealed(nil)}
}

func TestH2ChooseWhereOneErrs(t *testing.T) {
	for _, wrong := range wrongs() {
		for _, h := range heads() {
			good := bytesOf(h)
			if got, at, e := head.Choose(good, wrong); !same(got, h) || at != 0 || e != api.OK {
				t.Errorf("Choose(%q, %q): %v %d %d", good, wrong, got, at, e)
			}
			if got, at, e := head.Choose(wrong, good); !same(got, h) || at != 1 || e != api.OK {
				t.Errorf("Choose(%q, %q): %v %d %d", wrong, good, got, at, e)
			}
		}
	}
}

func TestH2ChooseWhereBothErr(t *testing.T) {
	// ErrForm, whatever the errors of the two are.
	for _, a := range wrongs() {
		for _, b := range wrongs() {
			if h, at, e := head.Choose(a, b); !same(h, head.Head{}) || at != 0 || e != api.ErrForm {
				t.Errorf("Choose(%q, %q): %v %d %d", a, b, h, at, e)
			}
		}
	}
}

// chanceHead is a head that is right, of any device.
func chanceHead(chance *rand.Rand) head.Head {
	h := head.Head{Gen: chance.Uint64() >> chance.Intn(64), Sectors: 2 + chance.Intn(most-1)}
	if chance.Intn(2) == 0 {
		h.Sectors = 2 + chance.Intn(30)
	}
	total, next := 0, 2
	for range chance.Intn(9) {
		at := next + chance.Intn(1+chance.Intn(1+h.Sectors/8))
		if at >= h.Sectors {
			break
		}
		many := 1 + chance.Intn(1+chance.Intn(h.Sectors-at))
		h.Spans = append(h.Spans, api.Span{At: at, Many: many})
		total += many
		next = at + many + 1
	}
	if total > 0 {
		h.Size = total*64 - chance.Intn(64)
	}
	return h
}

func TestH3TakeOfPut(t *testing.T) {
	hs := heads()
	chance := rand.New(rand.NewSource(7))
	for range 20000 {
		hs = append(hs, chanceHead(chance))
	}
	for _, h := range hs {
		s := put(t, h)
		if got, e := head.Take(s); !same(got, h) || e != api.OK {
			t.Fatalf("Take of Put(%v): %v %d", h, got, e)
		}
		if s != bytesOf(h) || put(t, h) != s {
			t.Fatalf("Put(%v): %q", h, s)
		}
	}
}

// turned is s with the bits of pattern turned, the lowest one of them at the bit at; those beyond the end are none.
func turned(s string, at int, pattern uint32) string {
	b := []byte(s)
	for i := range min(32, len(s)*8-at) {
		b[(at+i)/8] ^= byte(pattern >> i & 1 << ((at + i) % 8))
	}
	return string(b)
}

func TestH3TheOldOneCounts(t *testing.T) {
	chance := rand.New(rand.NewSource(8))
	patterns := []uint32{1, 3, 0xff, 0x101, 0x80000001, greats >> 32, 0xedb88321}
	for range 5 {
		patterns = append(patterns, chance.Uint32()|1)
	}
	for i, old := range heads() {
		if old.Gen == greats {
			continue
		}
		// What a volume would write behind it: one more, and another directory.
		after := heads()[len(heads())-1-i]
		after.Gen = old.Gen + 1
		was, is := put(t, old), put(t, after)
		if h, at, e := head.Choose(was, is); !same(h, after) || at != 1 || e != api.OK {
			t.Fatal(h, at, e)
		}
		if h, at, e := head.Choose(is, was); !same(h, after) || at != 0 || e != api.OK {
			t.Fatal(h, at, e)
		}
		for at := range sector * 8 {
			for _, p := range patterns {
				wrong := turned(is, at, p)
				if h, slot, e := head.Choose(was, wrong); !same(h, old) || slot != 0 || e != api.OK {
					t.Fatalf("%#x turned at %d: %v %d %d", p, at, h, slot, e)
				}
				if h, slot, e := head.Choose(wrong, was); !same(h, old) || slot != 1 || e != api.OK {
					t.Fatalf("%#x turned at %d: %v %d %d", p, at, h, slot, e)
				}
			}
		}
	}
}

func TestH3APartThatWasNotWritten(t *testing.T) {
	// 4 bytes, at each place, are still those of the head that was in the slot before, or noughts.
	old, after, before := of(7, 300, 65, 260, 2), of(8, 300, 6*64, 2, 3, 290, 3), of(6, 300, 0)
	was, is := put(t, old), put(t, after)
	for _, in := range []string{put(t, before), strings.Repeat("\x00", 64), strings.Repeat("\xff", 64)} {
		for i := range 61 {
			wrong := is[:i] + in[i:i+4] + is[i+4:]
			want, slot := old, 0
			if wrong == is {
				want, slot = after, 1
			}
			if h, at, e := head.Choose(was, wrong); !same(h, want) || at != slot || e != api.OK {
				t.Errorf("at %d: %v %d %d", i, h, at, e)
			}
		}
	}
}

func TestNothingHandedInIsChanged(t *testing.T) {
	all := append(heads(), none()...)
	for _, h := range all {
		// What lies behind the row's length is another's.
		room := append(slices.Clone(h.Spans), row(-1, -1, 77, 7)...)
		kept := slices.Clone(room)
		given := h
		given.Spans = room[:len(h.Spans)]
		head.Right(given)
		head.Put(given)
		if !slices.Equal(room, kept) {
			t.Errorf("of %v: %v", h, room)
		}
	}
}

func TestNothingHandedInIsKept(t *testing.T) {
	l := row(2, 1, 4, 2)
	h := with(9, 3*64, l)
	s := put(t, h)
	l[0].At = 9
	if got, e := head.Take(s); !same(got, of(5, 9, 3*64, 2, 1, 4, 2)) || e != api.OK {
		t.Error(got, e)
	}
	if head.Right(h) {
		t.Error("the row is another one now")
	}
	if s, e := head.Put(h); s != "" || e != api.ErrArg {
		t.Error(s, e)
	}
}

func TestAnswersAreNew(t *testing.T) {
	want := of(5, 9, 3*64, 2, 1, 4, 2)
	s := bytesOf(want)
	one, _ := head.Take(s)
	two, _ := head.Take(s)
	three, _, _ := head.Choose(s, s)
	four, _, _ := head.Choose("", s)
	for i, h := range []head.Head{one, two, three, four} {
		if !same(h, want) {
			t.Fatal(i, h)
		}
		_ = append(h.Spans, api.Span{At: 8, Many: 1})
		for j := range h.Spans {
			h.Spans[j] = api.Span{At: -i, Many: -j}
		}
	}
	if h, e := head.Take(s); !same(h, want) || e != api.OK {
		t.Error(h, e)
	}
}

func TestTheSameAgain(t *testing.T) {
	// No call hangs on those ahead of it, be they of errors or not.
	texts := wrongs()
	for _, h := range heads() {
		texts = append(texts, bytesOf(h))
	}
	for range 2 {
		for _, a := range texts {
			for _, b := range texts {
				h, at, e := head.Choose(a, b)
				h2, at2, e2 := head.Choose(a, b)
				if !same(h, h2) || at != at2 || e != e2 {
					t.Fatalf("Choose(%q, %q): %v %d %d, then %v %d %d", a, b, h, at, e, h2, at2, e2)
				}
			}
		}
	}
}

func TestAnyHeadEnds(t *testing.T) {
	numbers := []int{math.MinInt, math.MinInt + 1, -65, -64, -1, 0, 1, 2, 9, 64, most, 1 << 16, 1 << 32, 1 << 62, math.MaxInt - 1, math.MaxInt}
	for _, sectors := range numbers {
		for _, size := range numbers {
			for _, a := range numbers {
				for _, b := range numbers {
					h := of(3, sectors, size, a, b)
					if got, want := head.Right(h), rightByWords(h); got != want {
						t.Fatalf("Right(%v): %v", h, got)
					}
					if s, e := head.Put(h); (e == api.OK) != rightByWords(h) || e != api.OK && (s != "" || e != api.ErrArg) {
						t.Fatalf("Put(%v): %q %d", h, s, e)
					}
				}
			}
		}
	}
	if long := slices.Repeat(row(2, 1), 100000); head.Right(with(9, 64, long)) {
		t.Error("a long row")
	}
}
