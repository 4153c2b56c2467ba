package cell_test

import (
	"math"
	"math/rand"
	"slices"
	"strings"
	"testing"

	"rootcellar/api"
	"rootcellar/cell"
)

// The chapter's own numbers, so that other ones of the program would be seen.
const (
	size = 16 // bytes of a cluster
	most = 64 // clusters
)

const noughts = "\x00\x00\x00\x00\x00\x00\x00\x00\x00\x00\x00\x00\x00\x00\x00\x00"

func full(c string) string { return strings.Repeat(c, size) }

// text is a cluster's bytes by its letter: of `0` noughts, of another one 16 of it.
func text(letter byte) string {
	if letter == '0' {
		return noughts
	}
	return full(string(letter))
}

// image is one of as many clusters as there are letters: `.` is no cell, `0` a zero mark, another one a text of it.
func image(letters string) cell.Image {
	m := cell.Image{Clusters: len(letters)}
	for at := range len(letters) {
		switch letters[at] {
		case '.':
		case '0':
			m.L = append(m.L, cell.Cell{At: at})
		default:
			m.L = append(m.L, cell.Cell{At: at, Text: text(letters[at])})
		}
	}
	return m
}

// row is an image of just these cells, be it right or not.
func row(clusters int, l ...cell.Cell) cell.Image { return cell.Image{Clusters: clusters, L: l} }

// at is a cell with a text, mark one without.
func at(n int, s string) cell.Cell { return cell.Cell{At: n, Text: s} }

func mark(n int) cell.Cell { return cell.Cell{At: n} }

func same(a, b cell.Image) bool { return a.Clusters == b.Clusters && slices.Equal(a.L, b.L) }

// deep is an image that shares nothing with the one it is of.
func deep(m cell.Image) cell.Image {
	var l []cell.Cell
	for _, c := range m.L {
		l = append(l, cell.Cell{At: c.At, Text: strings.Clone(c.Text)})
	}
	return cell.Image{Clusters: m.Clusters, L: l}
}

func nothing(m cell.Image) bool { return m.Clusters == 0 && len(m.L) == 0 }

// alone is 16 bytes of which one alone is not nought.
func alone(place int, b byte) string {
	return noughts[:place] + string([]byte{b}) + noughts[place+1:]
}

// rights is images that are right.
func rights() []cell.Image {
	all := []cell.Image{
		image("."), image("0"), image("a"), image("...."), image("0000"), image("abcd"), image("a.0b"), image("0..."), image("...0"), image("...a"), image("a..."), image(".ab."),
		image(strings.Repeat(".", most)), image(strings.Repeat("0", most)), image(strings.Repeat("a", most)), image(strings.Repeat("a0.", 21) + "a"),
		image(strings.Repeat(".", most-1) + "a"), image(strings.Repeat(".", most-1) + "0"), image("a" + strings.Repeat(".", most-1)), image("0" + strings.Repeat(".", most-1)),
		row(4, []cell.Cell{}...), {Clusters: 4, L: []cell.Cell{}},
		row(4, at(0, full("a")), at(1, full("a"))), row(4, at(3, full("\xff"))), row(4, at(3, "0123456789abcdef")), row(4, at(2, full(" "))), row(4, at(2, full("0"))),
		row(4, at(1, "éééééééé")), row(4, at(1, full("\x80"))),
	}
	for place := range size {
		all = append(all, row(2, at(1, alone(place, 1))), row(2, at(0, alone(place, 0x80)), mark(1)))
	}
	for clusters := 1; clusters <= most; clusters++ {
		all = append(all, row(clusters), row(clusters, mark(clusters-1)), row(clusters, at(clusters-1, full("z"))))
	}
	return all
}

// wrongs is images that are not.
func wrongs() []cell.Image {
	a, b := full("a"), full("b")
	all := []cell.Image{
		{}, row(0, mark(0)), row(-1), row(-1, mark(-1)), row(-4, mark(0)), row(-most), row(most + 1), row(most+1, mark(0)), row(most+1, mark(most)), row(1000), row(256 + 4), row(1<<32 + 4), row(math.MaxInt), row(math.MinInt), row(math.MinInt + 4),

		// Below 0, and at Clusters.
		row(4, mark(-1)), row(4, at(-1, a)), row(4, mark(-4)), row(4, mark(math.MinInt)), row(4, mark(-1), mark(0)), row(4, at(-1, a), at(2, b)), row(4, mark(-256)), row(4, mark(-most)),
		row(4, mark(4)), row(4, at(4, a)), row(4, mark(5)), row(4, mark(math.MaxInt)), row(4, at(3, a), at(4, a)), row(4, mark(0), mark(4)), row(1, mark(1)), row(4, mark(256+1)), row(4, mark(1<<32+1)),
		row(most, mark(most)), row(most, at(most, a)), row(most, mark(most-1), mark(most)), row(most-1, mark(most-1)),

		// Alike, and out of their order.
		row(4, mark(1), mark(1)), row(4, at(1, a), at(1, a)), row(4, at(1, a), at(1, b)), row(4, mark(1), at(1, b)), row(4, at(0, a), mark(0)), row(4, mark(3), mark(3)), row(4, at(0, a), at(1, a), at(1, a)), row(4, at(0, a), at(0, a), at(1, a)), row(4, at(0, a), at(1, a), at(0, a)),
		row(4, at(2, a), at(1, b)), row(4, mark(1), mark(0)), row(4, mark(3), mark(0)), row(4, mark(0), mark(2), mark(1)), row(4, mark(1), mark(0), mark(2)), row(4, mark(3), mark(2), mark(1), mark(0)), row(4, mark(0), mark(3), mark(1)),

		// Texts of other lengths, and of noughts.
		row(4, at(1, "x")), row(4, at(1, full("a")[1:])), row(4, at(1, full("a")+"a")), row(4, at(1, full("aa"))), row(4, at(1, full("a")+"\x00")), row(4, at(1, "\x00")), row(4, at(1, noughts[1:])), row(4, at(1, noughts)), row(4, at(1, noughts+"\x00")), row(4, at(1, noughts+"a")), row(4, at(1, noughts+noughts)), row(4, at(1, strings.Repeat("a", 256+size))), row(4, at(1, strings.Repeat("a", 1<<16))),
		row(4, at(0, noughts)), row(4, at(3, noughts)), row(4, at(0, a), at(1, noughts)), row(4, at(0, noughts), at(1, a)), row(4, mark(0), at(1, noughts), mark(2)), row(most, at(most-1, noughts)),
		row(4, at(0, a), at(1, "x"), at(2, b)), row(4, at(0, "x"), at(1, a)), row(4, at(0, a), at(3, "x")),

		// More cells than clusters.
		row(1, mark(0), mark(0)), row(2, mark(0), mark(1), mark(1)), row(2, mark(0), mark(1), mark(2)), {Clusters: 4, L: make([]cell.Cell, 5)}, {Clusters: most, L: make([]cell.Cell, 1000)},
	}
	long := row(most)
	for n := range most + 1 {
		long.L = append(long.L, mark(n))
	}
	return append(all, long)
}

// everyOne is all images of so many clusters, of four kinds of cells.
func everyOne(clusters int) []cell.Image {
	all := []string{""}
	for range clusters {
		var next []string
		for _, s := range all {
			for _, letter := range ".0ab" {
				next = append(next, s+string(letter))
			}
		}
		all = next
	}
	var images []cell.Image
	for _, s := range all {
		images = append(images, image(s))
	}
	return images
}

// rightByWords is the chapter's words, cluster by cluster: each cell is asked how many are like it, and which lie ahead.
func rightByWords(m cell.Image) bool {
	if m.Clusters < 1 || m.Clusters > most {
		return false
	}
	for i, c := range m.L {
		if c.At < 0 || c.At > m.Clusters-1 {
			return false
		}
		for _, ahead := range m.L[:i] {
			if ahead.At >= c.At {
				return false
			}
		}
		if len(c.Text) != 0 && (len(c.Text) != size || strings.Trim(c.Text, "\x00") == "") {
			return false
		}
	}
	return true
}

// model is an image as a text for each cluster that it has.
type model struct {
	clusters int
	texts    map[int]string
}

func modelOf(m cell.Image) model {
	k := model{m.Clusters, map[int]string{}}
	for _, c := range m.L {
		k.texts[c.At] = c.Text
		if c.Text == "" {
			k.texts[c.At] = noughts
		}
	}
	return k
}

func (k model) image() cell.Image {
	m := cell.Image{Clusters: k.clusters}
	for n := range k.clusters {
		s, there := k.texts[n]
		if !there {
			continue
		}
		if s == noughts {
			s = ""
		}
		m.L = append(m.L, cell.Cell{At: n, Text: s})
	}
	return m
}

func (k model) flat() string {
	out := ""
	for n := range k.clusters {
		s, there := k.texts[n]
		if !there {
			s = noughts
		}
		out += s
	}
	return out
}

func (k model) over(under model) model {
	o := model{k.clusters, map[int]string{}}
	for n := range k.clusters {
		if s, there := k.texts[n]; there {
			o.texts[n] = s
		} else if s, there := under.texts[n]; there {
			o.texts[n] = s
		}
	}
	return o
}

// asThe holds all that is asked of an image against a model of it.
func (k model) asThe(t *testing.T, m cell.Image) {
	t.Helper()
	if !same(m, k.image()) || !cell.Right(m) || cell.Flat(m) != k.flat() {
		t.Fatalf("%#v: want %#v", m, k.image())
	}
	for n := -2; n < k.clusters+2; n++ {
		s, ok := cell.Get(m, n)
		if want, there := k.texts[n]; ok != there || s != want {
			t.Fatalf("Get(%#v, %d): %#v, %v", m, n, s, ok)
		}
	}
}

func TestExamples(t *testing.T) {
	m, e := cell.New(4)
	if e != api.OK {
		t.Fatal(e)
	}
	m, e = cell.Put(m, 1, noughts)
	if e != api.OK || !same(m, row(4, mark(1))) {
		t.Fatal(m, e)
	}
	if s, ok := cell.Get(m, 1); s != noughts || !ok {
		t.Errorf("%#v, %v", s, ok)
	}
	if s, ok := cell.Get(m, 2); s != "" || ok {
		t.Errorf("%#v, %v", s, ok)
	}
}

func TestE1New(t *testing.T) {
	for _, n := range []int{-1, 0, most + 1, -most, -2, 65 + 1, 100, 128, 255, 256, 257, 1 << 16, 1<<32 + 1, 1<<32 + most, math.MaxInt, math.MinInt, math.MinInt + 1} {
		if m, e := cell.New(n); e != api.ErrArg || !nothing(m) {
			t.Errorf("New(%d): %v, %v", n, m, e)
		}
	}
	for n := 1; n <= most; n++ {
		m, e := cell.New(n)
		if e != api.OK || m.Clusters != n || len(m.L) != 0 || !cell.Right(m) {
			t.Errorf("New(%d): %v, %v", n, m, e)
		}
		if s := cell.Flat(m); s != strings.Repeat(noughts, n) {
			t.Errorf("New(%d): %#v", n, s)
		}
	}
}

func TestE1Right(t *testing.T) {
	for _, m := range rights() {
		if !cell.Right(m) || !rightByWords(m) {
			t.Errorf("%#v", m)
		}
	}
	for _, m := range wrongs() {
		if cell.Right(m) || rightByWords(m) {
			t.Errorf("%#v", m)
		}
	}
	for n := -3; n < 3*most; n++ {
		if got, want := cell.Right(row(n)), n >= 1 && n <= 64; got != want {
			t.Error(n, got)
		}
	}
}

// A cell of each length, of noughts or of others, alone and behind another one.
func TestE1RightOfEachLength(t *testing.T) {
	for n := range 300 {
		want := n == 0 || n == 16
		if m := row(2, at(1, strings.Repeat("q", n))); cell.Right(m) != want {
			t.Error(n, !want)
		}
		if m := row(2, mark(0), at(1, strings.Repeat("q", n))); cell.Right(m) != want {
			t.Error(n, !want)
		}
		if m := row(2, at(1, strings.Repeat("\x00", n))); cell.Right(m) != (n == 0) {
			t.Error(n)
		}
	}
}

// All rows of up to three cells of a small disk, by the chapter's words.
func TestE1RightOfSmallRows(t *testing.T) {
	var cells []cell.Cell
	for n := -1; n <= 3; n++ {
		cells = append(cells, mark(n), at(n, full("a")), at(n, noughts), at(n, "a"))
	}
	hold := func(l ...cell.Cell) {
		for clusters := -1; clusters <= 4; clusters++ {
			if m := row(clusters, l...); cell.Right(m) != rightByWords(m) {
				t.Fatalf("%#v: %v", m, cell.Right(m))
			}
		}
	}
	for _, a := range cells {
		hold(a)
		for _, b := range cells {
			hold(a, b)
			for _, c := range cells {
				hold(a, b, c)
			}
		}
	}
}

func TestE1Put(t *testing.T) {
	a, z := full("a"), full("z")
	for _, c := range []struct {
		m    cell.Image
		at   int
		s    string
		e    api.Errno
		want cell.Image
	}{
		// Where no cell is: alone, at the beginning, between, at the end.
		{image("...."), 0, z, 0, image("z...")},
		{image("...."), 3, z, 0, image("...z")},
		{image("."), 0, z, 0, image("z")},
		{image(".a.b"), 0, z, 0, image("za.b")},
		{image(".a.b"), 2, z, 0, image(".azb")},
		{image("a.b."), 3, z, 0, image("a.bz")},
		{image("a..b"), 1, z, 0, image("az.b")},
		{image("a..b"), 2, z, 0, image("a.zb")},
		{image("0..0"), 2, z, 0, image("0.z0")},
		{image("...."), 1, noughts, 0, image(".0..")},
		{image("a..."), 3, noughts, 0, image("a..0")},
		{image("...a"), 0, noughts, 0, image("0..a")},
		{image("a..a"), 1, noughts, 0, image("a0.a")},

		// Where one is: a text or a zero mark in place of either.
		{image("a..."), 0, z, 0, image("z...")},
		{image("...a"), 3, z, 0, image("...z")},
		{image("abcd"), 0, z, 0, image("zbcd")},
		{image("abcd"), 1, z, 0, image("azcd")},
		{image("abcd"), 3, z, 0, image("abcz")},
		{image("a"), 0, z, 0, image("z")},
		{image("a"), 0, noughts, 0, image("0")},
		{image("0"), 0, z, 0, image("z")},
		{image("abcd"), 0, noughts, 0, image("0bcd")},
		{image("abcd"), 2, noughts, 0, image("ab0d")},
		{image("abcd"), 3, noughts, 0, image("abc0")},
		{image("0000"), 1, z, 0, image("0z00")},
		{image("0000"), 1, noughts, 0, image("0000")},
		{image("abcd"), 2, text('c'), 0, image("abcd")},

		// The last cluster, and the ones that are none.
		{image(strings.Repeat(".", most)), most - 1, z, 0, image(strings.Repeat(".", most-1) + "z")},
		{image(strings.Repeat("a", most)), most - 1, z, 0, image(strings.Repeat("a", most-1) + "z")},
		{image(strings.Repeat("a", most)), 0, z, 0, image("z" + strings.Repeat("a", most-1))},
		{image("a0.."), -1, z, api.ErrRange, cell.Image{}},
		{image("a0.."), 4, z, api.ErrRange, cell.Image{}},
		{image("a0.."), 5, noughts, api.ErrRange, cell.Image{}},
		{image("...."), -1, z, api.ErrRange, cell.Image{}},
		{image("abcd"), 4, z, api.ErrRange, cell.Image{}},
		{image("a"), 1, z, api.ErrRange, cell.Image{}},
		{image("a0.."), math.MaxInt, z, api.ErrRange, cell.Image{}},
		{image("a0.."), math.MinInt, z, api.ErrRange, cell.Image{}},
		{image("a0.."), 1<<32 + 1, z, api.ErrRange, cell.Image{}},
		{image("a0.."), 256 + 1, z, api.ErrRange, cell.Image{}},
		{image(strings.Repeat(".", most)), most, z, api.ErrRange, cell.Image{}},
		{image(strings.Repeat("a", most)), most, z, api.ErrRange, cell.Image{}},
		{image(strings.Repeat("a", most-1)), most - 1, z, api.ErrRange, cell.Image{}},

		// Texts of other lengths, where a cell is, and where none is.
		{image("a0.."), 0, a[1:], api.ErrArg, cell.Image{}},
		{image("a0.."), 2, a[1:], api.ErrArg, cell.Image{}},
		{image("a0.."), 0, a + "a", api.ErrArg, cell.Image{}},
		{image("a0.."), 3, a + "a", api.ErrArg, cell.Image{}},
		{image("a0.."), 2, "", api.ErrArg, cell.Image{}},
		{image("a0.."), 1, "", api.ErrArg, cell.Image{}},
		{image("a0.."), 0, "a", api.ErrArg, cell.Image{}},
		{image("a0.."), 0, noughts[1:], api.ErrArg, cell.Image{}},
		{image("a0.."), 2, noughts + "\x00", api.ErrArg, cell.Image{}},
		{image("a0.."), 2, noughts + noughts, api.ErrArg, cell.Image{}},
		{image("a0.."), 2, a + a, api.ErrArg, cell.Image{}},
		{image("a0.."), 2, strings.Repeat("é", size), api.ErrArg, cell.Image{}},
		{image("a0.."), 2, strings.Repeat("a", 256+size), api.ErrArg, cell.Image{}},

		// Both: the cluster that is none is told.
		{image("a0.."), -1, "", api.ErrRange, cell.Image{}},
		{image("a0.."), 4, "", api.ErrRange, cell.Image{}},
		{image("a0.."), -1, a[1:], api.ErrRange, cell.Image{}},
		{image("a0.."), 4, a + "a", api.ErrRange, cell.Image{}},
	} {
		m, e := cell.Put(c.m, c.at, c.s)
		if e != c.e || !same(m, c.want) {
			t.Errorf("Put(%#v, %d, %#v): %#v, %v", c.m, c.at, c.s, m, e)
		}
	}
}

// A text is its bytes, whatever they are, and a zero mark only if none of them is another one.
func TestE1PutOfOneByteThatIsNotNought(t *testing.T) {
	for _, m := range []cell.Image{image("..."), image("a.b"), image("aab"), image("a0b")} {
		for place := range size {
			for b := range 256 {
				s := alone(place, byte(b))
				want := modelOf(m)
				want.texts[1] = s
				got, e := cell.Put(m, 1, s)
				if e != api.OK || !same(got, want.image()) || !cell.Right(got) {
					t.Fatalf("Put(%#v, 1, %#v): %#v, %v", m, s, got, e)
				}
				if read, ok := cell.Get(got, 1); read != s || !ok {
					t.Fatalf("Put(%#v, 1, %#v): Get %#v, %v", m, s, read, ok)
				}
			}
		}
	}
}

func TestE1PutOfEachLength(t *testing.T) {
	for n := range 300 {
		for _, c := range []string{"q", "\x00"} {
			m, e := cell.Put(image("a.."), 1, strings.Repeat(c, n))
			if n == 16 && (e != api.OK || len(m.L) != 2) || n != 16 && (e != api.ErrArg || !nothing(m)) {
				t.Errorf("%d of %#v: %#v, %v", n, c, m, e)
			}
		}
	}
}

func TestE1PutOfEachCluster(t *testing.T) {
	for clusters := 1; clusters <= most; clusters++ {
		m, _ := cell.New(clusters)
		all := image(strings.Repeat("a", clusters))
		for n := range clusters {
			one, e := cell.Put(m, n, full("z"))
			if e != api.OK || !same(one, row(clusters, at(n, full("z")))) {
				t.Fatalf("%d of %d: %#v, %v", n, clusters, one, e)
			}
			want := modelOf(all)
			want.texts[n] = noughts
			other, e := cell.Put(all, n, noughts)
			if e != api.OK {
				t.Fatalf("%d of %d: %v", n, clusters, e)
			}
			want.asThe(t, other)
		}
		for _, n := range []int{-1, clusters, clusters + 1, clusters + most} {
			if one, e := cell.Put(m, n, full("z")); e != api.ErrRange || !nothing(one) {
				t.Fatalf("%d of %d: %#v, %v", n, clusters, one, e)
			}
		}
	}
}

func TestE1Drop(t *testing.T) {
	for _, c := range []struct {
		m    cell.Image
		at   int
		e    api.Errno
		want cell.Image
	}{
		{image("abcd"), 0, 0, image(".bcd")},
		{image("abcd"), 1, 0, image("a.cd")},
		{image("abcd"), 3, 0, image("abc.")},
		{image("a"), 0, 0, image(".")},
		{image("0"), 0, 0, image(".")},
		{image(".0.a"), 1, 0, image("...a")},
		{image(".0.a"), 3, 0, image(".0..")},
		{image(".0.a"), 0, 0, image(".0.a")},
		{image(".0.a"), 2, 0, image(".0.a")},
		{image("0..."), 3, 0, image("0...")},
		{image("...."), 0, 0, image("....")},
		{image("...."), 3, 0, image("....")},
		{image("."), 0, 0, image(".")},
		{image(strings.Repeat("a", most)), most - 1, 0, image(strings.Repeat("a", most-1) + ".")},
		{image("abcd"), -1, api.ErrRange, cell.Image{}},
		{image("abcd"), 4, api.ErrRange, cell.Image{}},
		{image("...."), -1, api.ErrRange, cell.Image{}},
		{image("...."), 4, api.ErrRange, cell.Image{}},
		{image("abcd"), 5, api.ErrRange, cell.Image{}},
		{image("a"), 1, api.ErrRange, cell.Image{}},
		{image("abcd"), math.MaxInt, api.ErrRange, cell.Image{}},
		{image("abcd"), math.MinInt, api.ErrRange, cell.Image{}},
		{image("abcd"), 1 << 32, api.ErrRange, cell.Image{}},
		{image("abcd"), 256, api.ErrRange, cell.Image{}},
		{image(strings.Repeat("a", most)), most, api.ErrRange, cell.Image{}},
		{image(strings.Repeat("a", most)), -1, api.ErrRange, cell.Image{}},
	} {
		m, e := cell.Drop(c.m, c.at)
		if e != c.e || !same(m, c.want) {
			t.Errorf("Drop(%#v, %d): %#v, %v", c.m, c.at, m, e)
		}
	}
}

func TestE1Get(t *testing.T) {
	m := row(6, at(0, full("a")), mark(2), at(3, "0123456789abcdef"), at(5, alone(15, 7)))
	for n, want := range map[int]string{0: full("a"), 2: noughts, 3: "0123456789abcdef", 5: alone(15, 7)} {
		if s, ok := cell.Get(m, n); s != want || !ok {
			t.Errorf("Get(%d): %#v, %v", n, s, ok)
		}
	}
	for _, n := range []int{1, 4, -1, 6, 7, most, 256, 1 << 32, math.MaxInt, math.MinInt} {
		if s, ok := cell.Get(m, n); s != "" || ok {
			t.Errorf("Get(%d): %#v, %v", n, s, ok)
		}
	}
	for n := range most {
		if s, ok := cell.Get(image(strings.Repeat(".", most)), n); s != "" || ok {
			t.Errorf("Get(%d): %#v, %v", n, s, ok)
		}
		if s, ok := cell.Get(image(strings.Repeat("0", most)), n); s != noughts || !ok {
			t.Errorf("Get(%d): %#v, %v", n, s, ok)
		}
	}
}

// What is asked, put and dropped of all images of four clusters.
func TestE1OfSmallImages(t *testing.T) {
	for _, m := range everyOne(4) {
		modelOf(m).asThe(t, m)
		for n := range 4 {
			for _, s := range []string{noughts, full("a"), full("z")} {
				k := modelOf(m)
				k.texts[n] = s
				put, e := cell.Put(m, n, s)
				if e != api.OK {
					t.Fatalf("Put(%#v, %d, %#v): %v", m, n, s, e)
				}
				k.asThe(t, put)
			}
			k := modelOf(m)
			delete(k.texts, n)
			dropped, e := cell.Drop(m, n)
			if e != api.OK {
				t.Fatalf("Drop(%#v, %d): %v", m, n, e)
			}
			k.asThe(t, dropped)
		}
	}
}

func TestE2Over(t *testing.T) {
	for _, c := range []struct{ top, under, want string }{
		{"....", "....", "...."}, {"abcd", "....", "abcd"}, {"....", "abcd", "abcd"}, {"abcd", "efgh", "abcd"}, {"0000", "abcd", "0000"}, {"abcd", "0000", "abcd"}, {"....", "0000", "0000"}, {"0000", "....", "0000"},
		{"a.0.", ".bb0", "ab00"}, {".bb0", "a.0.", "abb0"}, {"a...", "...b", "a..b"}, {"...b", "a...", "a..b"}, {".a.b", "c.d.", "cadb"}, {"c.d.", ".a.b", "cadb"}, {"a..b", ".cd.", "acdb"}, {".cd.", "a..b", "acdb"},
		{"a", ".", "a"}, {".", "a", "a"}, {"a", "b", "a"}, {"0", "a", "0"}, {"a", "0", "a"}, {"0", "0", "0"}, {".", ".", "."}, {".", "0", "0"}, {"0", ".", "0"},
		{strings.Repeat("a.", most/2), strings.Repeat("bc", most/2), strings.Repeat("ac", most/2)},
		{strings.Repeat("0.", most/2), strings.Repeat(".0", most/2), strings.Repeat("00", most/2)},
		{strings.Repeat(".", most), strings.Repeat("a", most), strings.Repeat("a", most)},
		{strings.Repeat("b", most), strings.Repeat("a", most), strings.Repeat("b", most)},
	} {
		if got := cell.Over(image(c.top), image(c.under)); !same(got, image(c.want)) {
			t.Errorf("Over(%s, %s): %#v", c.top, c.under, got)
		}
	}
}

// Of images of other Clusters, and of any that are not right, Over is top, whatever that is.
func TestE2OverOfOthers(t *testing.T) {
	for _, c := range []struct{ top, under string }{
		{"a.0.", "....."}, {"a.0.", "bbbbb"}, {"a.0.", "bbb"}, {"a.0.", "."}, {"....", "b"}, {"....", strings.Repeat("b", most)}, {strings.Repeat(".", most), "bbbb"}, {strings.Repeat(".", most), strings.Repeat("b", most-1)},
	} {
		if got := cell.Over(image(c.top), image(c.under)); !same(got, image(c.top)) {
			t.Errorf("Over(%s, %s): %#v", c.top, c.under, got)
		}
	}
	for _, wrong := range wrongs() {
		for _, right := range []cell.Image{image("...."), image("a.0."), image("abcd"), image("."), image("b"), row(most), row(most, mark(0), at(7, full("z")))} {
			if got := cell.Over(right, wrong); !same(got, right) {
				t.Errorf("Over(%#v, %#v): %#v", right, wrong, got)
			}
			if got := cell.Over(wrong, right); !same(got, wrong) {
				t.Errorf("Over(%#v, %#v): %#v", wrong, right, got)
			}
		}
		for _, other := range wrongs() {
			if got := cell.Over(wrong, other); !same(got, wrong) {
				t.Errorf("Over(%#v, %#v): %#v", wrong, other, got)
			}
		}
	}
}

func TestE2Flat(t *testing.T) {
	for letters, want := range map[string]string{
		"....": noughts + noughts + noughts + noughts,
		"0000": noughts + noughts + noughts + noughts,
		"abcd": full("a") + full("b") + full("c") + full("d"),
		"a.0d": full("a") + noughts + noughts + full("d"),
		".b..": noughts + full("b") + noughts + noughts,
		"0a":   noughts + full("a"),
		"a":    full("a"),
		"0":    noughts,
		".":    noughts,
	} {
		if s := cell.Flat(image(letters)); s != want {
			t.Errorf("Flat(%s): %#v", letters, s)
		}
	}
	for _, m := range rights() {
		if s := cell.Flat(m); s != modelOf(m).flat() || len(s) != 16*m.Clusters {
			t.Errorf("Flat(%#v): %#v", m, s)
		}
	}
	for _, m := range wrongs() {
		if s := cell.Flat(m); s != "" {
			t.Errorf("Flat(%#v): %#v", m, s)
		}
	}
}

// All images of three clusters, over all, over all.
func TestE3OfSmallImages(t *testing.T) {
	all := everyOne(3)
	for _, a := range all {
		for _, b := range all {
			ab := cell.Over(a, b)
			modelOf(a).over(modelOf(b)).asThe(t, ab)
			for n := range 3 {
				s, ok := cell.Get(a, n)
				if !ok {
					s, ok = cell.Get(b, n)
				}
				if read, there := cell.Get(ab, n); read != s || there != ok {
					t.Fatalf("Over(%#v, %#v): Get(%d) %#v, %v", a, b, n, read, there)
				}
			}
			for _, c := range all {
				if x, y := cell.Over(ab, c), cell.Over(a, cell.Over(b, c)); !same(x, y) {
					t.Fatalf("%#v, %#v, %#v: %#v, %#v", a, b, c, x, y)
				}
			}
		}
	}
}

// chanceText is 16 bytes, often of few bits.
func chanceText(r *rand.Rand) string {
	s := make([]byte, size)
	switch r.Intn(4) {
	case 0:
	case 1:
		s[r.Intn(size)] = byte(r.Intn(256))
	case 2:
		s[r.Intn(size)] = 1 << r.Intn(8)
	default:
		r.Read(s)
	}
	return string(s)
}

func chanceImage(r *rand.Rand, clusters int) cell.Image {
	k := model{clusters, map[int]string{}}
	thin := 1 + r.Intn(5)
	for n := range clusters {
		if r.Intn(thin) == 0 {
			k.texts[n] = chanceText(r)
		}
	}
	return k.image()
}

// Calls by chance, each image held against a model of it, and the ones that it was made of against what they were.
func TestE1ToE3ByAModel(t *testing.T) {
	r := rand.New(rand.NewSource(9))
	for range 300 {
		clusters := 1 + r.Intn(most)
		m, _ := cell.New(clusters)
		k := modelOf(m)
		for range 60 {
			was, n := deep(m), r.Intn(clusters+4)-2
			inside := n >= 0 && n < clusters
			want := api.OK
			if !inside {
				want = api.ErrRange
			}
			var next cell.Image
			var e api.Errno
			switch r.Intn(4) {
			case 0, 1:
				s := chanceText(r)
				if next, e = cell.Put(m, n, s); inside {
					k.texts[n] = s
				}
			case 2:
				if next, e = cell.Drop(m, n); inside {
					delete(k.texts, n)
				}
			default:
				other := chanceImage(r, clusters)
				want = api.OK
				if r.Intn(2) == 0 {
					next, k = cell.Over(m, other), k.over(modelOf(other))
				} else {
					next, k = cell.Over(other, m), modelOf(other).over(k)
				}
			}
			if e != want || e != api.OK && !nothing(next) || !same(m, was) {
				t.Fatalf("%d of %d: %v, %#v; %#v was %#v", n, clusters, e, next, m, was)
			}
			if e == api.OK {
				m = next
			}
			k.asThe(t, m)
		}
	}
}

func TestE3ByChance(t *testing.T) {
	r := rand.New(rand.NewSource(10))
	for range 2000 {
		clusters := 1 + r.Intn(most)
		a, b, c := chanceImage(r, clusters), chanceImage(r, clusters), chanceImage(r, clusters)
		x, y := cell.Over(cell.Over(a, b), c), cell.Over(a, cell.Over(b, c))
		if !same(x, y) || len(cell.Flat(x)) != clusters*size {
			t.Fatalf("%#v, %#v, %#v: %#v, %#v", a, b, c, x, y)
		}
		modelOf(a).over(modelOf(b)).over(modelOf(c)).asThe(t, x)
	}
}

// roomy is an image whose list has more places behind its length, with cells there that nobody may see or change.
func roomy(m cell.Image) (cell.Image, []cell.Cell) {
	l := append(slices.Clone(m.L), at(2, full("!")), at(-7, "x"), mark(3))
	return cell.Image{Clusters: m.Clusters, L: l[:len(m.L)]}, l
}

// made is all images that the calls make of two.
func made(m, other cell.Image) []cell.Image {
	var all []cell.Image
	for n := -1; n <= 4; n++ {
		for _, s := range []string{noughts, full("z"), "short", full("b")} {
			put, _ := cell.Put(m, n, s)
			all = append(all, put)
		}
		dropped, _ := cell.Drop(m, n)
		all = append(all, dropped)
	}
	return append(all, cell.Over(m, other), cell.Over(other, m), cell.Over(m, m))
}

func scribble(l []cell.Cell) {
	for i := range l {
		l[i] = at(99, "scribbled")
	}
}

// pairs is images of which made makes others: right ones, and ones that are not.
func pairs() [][2]cell.Image {
	all := [][2]cell.Image{
		{row(4, at(2, "x"), at(1, "y")), image("abcd")}, {image("abcd"), row(4, mark(1), mark(1))}, {row(4, mark(1), mark(1)), row(4, mark(4))}, {image("abcd"), image("abc")}, {image("abc"), image("abcde")}, {row(0, mark(0)), row(-1)},
	}
	for _, a := range []string{"....", "a...", "...a", "abcd", "a.0b", "0000", ".a0."} {
		for _, b := range []string{"....", "b...", "bbbb", ".0b.", "0..."} {
			all = append(all, [2]cell.Image{image(a), image(b)})
		}
	}
	return all
}

func TestNoImageIsChanged(t *testing.T) {
	for _, p := range pairs() {
		a, room := roomy(p[0])
		b, bRoom := roomy(p[1])
		wasRoom, wasB := slices.Clone(room), slices.Clone(bRoom)
		for _, m := range made(a, b) {
			scribble(m.L[:cap(m.L)])
		}
		cell.Right(a)
		cell.Flat(a)
		cell.Get(a, 1)
		if !slices.Equal(room, wasRoom) || !slices.Equal(bRoom, wasB) {
			t.Errorf("%#v, %#v: now %#v, %#v", p[0], p[1], room, bRoom)
		}
	}
}

func TestNoImageIsShared(t *testing.T) {
	for _, p := range pairs() {
		a, room := roomy(p[0])
		b, bRoom := roomy(p[1])
		all := made(a, b)
		var was []cell.Image
		for _, m := range all {
			was = append(was, deep(m))
		}
		scribble(room)
		scribble(bRoom)
		for i, m := range all {
			if !same(m, was[i]) {
				t.Errorf("%#v, %#v: %d: %#v was %#v", p[0], p[1], i, m, was[i])
			}
		}
	}
}

// What lies behind a list's length is not read either.
func TestBehindTheLengthNothingIsRead(t *testing.T) {
	for _, p := range pairs() {
		a, _ := roomy(p[0])
		b, _ := roomy(p[1])
		x, y := made(a, b), made(deep(p[0]), deep(p[1]))
		for i := range x {
			if !same(x[i], y[i]) {
				t.Errorf("%#v, %#v: %d: %#v, %#v", p[0], p[1], i, x[i], y[i])
			}
		}
		if cell.Right(a) != cell.Right(p[0]) || cell.Flat(a) != cell.Flat(p[0]) {
			t.Errorf("%#v", p[0])
		}
	}
}

func TestTheSameAgain(t *testing.T) {
	for _, p := range pairs() {
		x, y := made(p[0], p[1]), made(p[0], p[1])
		if !slices.EqualFunc(x, y, same) {
			t.Errorf("%#v, %#v: %#v, %#v", p[0], p[1], x, y)
		}
	}
}

// A zero value stands beside each error and beside false.
func TestErrorsAnswerNothing(t *testing.T) {
	for _, m := range append(rights(), wrongs()...) {
		for n := -2; n < most+3; n++ {
			if k, e := cell.Put(m, n, "short"); e != api.OK && !nothing(k) {
				t.Errorf("Put(%#v, %d): %#v, %v", m, n, k, e)
			}
			if k, e := cell.Drop(m, n); e != api.OK && !nothing(k) {
				t.Errorf("Drop(%#v, %d): %#v, %v", m, n, k, e)
			}
			if s, ok := cell.Get(m, n); !ok && s != "" {
				t.Errorf("Get(%#v, %d): %#v", m, n, s)
			}
		}
	}
}

// Any image is answered, without a panic.
func TestAnyImageEnds(t *testing.T) {
	r := rand.New(rand.NewSource(11))
	numbers := []int{-1, 0, 1, 2, 3, 15, 16, 17, 63, 64, 65, 256, 1 << 31, 1 << 60, math.MaxInt, math.MinInt}
	texts := []string{"", "a", full("a"), noughts, full("a") + "a", noughts[1:], strings.Repeat("a", 1000)}
	number := func() int { return numbers[r.Intn(len(numbers))] }
	chance := func() cell.Image {
		m := row(number())
		for range r.Intn(8) {
			m.L = append(m.L, at(number(), texts[r.Intn(len(texts))]))
		}
		return m
	}
	images := append(wrongs(), rights()...)
	for range 3000 {
		images = append(images, chance())
	}
	images = append(images, cell.Image{Clusters: most, L: make([]cell.Cell, 1<<16)})
	for i, m := range images {
		if cell.Right(m) != rightByWords(m) || !cell.Right(m) && cell.Flat(m) != "" {
			t.Errorf("%#v", m)
		}
		for _, n := range numbers {
			cell.New(n)
			cell.Get(m, n)
			cell.Drop(m, n)
			for _, s := range texts {
				cell.Put(m, n, s)
			}
		}
		cell.Over(m, images[(i*7+1)%len(images)])
	}
}
