package span_test

import (
	"math"
	"math/rand"
	"slices"
	"testing"

	"rootcellar/api"
	"rootcellar/span"
)

const most = 8192 // the chapter's own number, so that another one of api would be seen

// row is spans, each by its first sector and how many it has.
func row(numbers ...int) []api.Span {
	var l []api.Span
	for i := 0; i+1 < len(numbers); i += 2 {
		l = append(l, api.Span{At: numbers[i], Many: numbers[i+1]})
	}
	return l
}

// odds is a row of as many spans of one sector as a device can have with a gap ahead of each.
func odds() []api.Span {
	var l []api.Span
	for at := 1; at < most; at += 2 {
		l = append(l, api.Span{At: at, Many: 1})
	}
	return l
}

func evens() []api.Span {
	l := odds()
	for i := range l {
		l[i].At--
	}
	return l
}

func backwards(l []api.Span) []api.Span {
	l = slices.Clone(l)
	slices.Reverse(l)
	return l
}

// wrongSizes are right for no row, and let no row be made right.
var wrongSizes = []int{0, -1, -5, -most, most + 1, 2 * most, 1 << 32, 1<<32 + 9, math.MaxInt, math.MinInt}

// rows is what becomes of rows for a size: the errors of Norm and Rest, and their answers.
func rows() []struct {
	l          []api.Span
	size       int
	right      bool
	e          api.Errno
	norm, rest []api.Span
} {
	const huge = math.MaxInt
	return []struct {
		l          []api.Span
		size       int
		right      bool
		e          api.Errno
		norm, rest []api.Span
	}{
		// A row of nothing, and the sizes at the edges.
		{nil, 1, true, 0, nil, row(0, 1)},
		{[]api.Span{}, 1, true, 0, nil, row(0, 1)},
		{nil, 9, true, 0, nil, row(0, 9)},
		{nil, most, true, 0, nil, row(0, most)},
		{row(0, 1), 1, true, 0, row(0, 1), nil},
		{row(0, most), most, true, 0, row(0, most), nil},
		{row(most-1, 1), most, true, 0, row(most-1, 1), row(0, most-1)},
		{row(0, most-1), most, true, 0, row(0, most-1), row(most-1, 1)},
		{row(0, most+1), most, false, api.ErrRange, nil, nil},
		{row(most, 1), most, false, api.ErrRange, nil, nil},
		{row(0, 2), 1, false, api.ErrRange, nil, nil},
		{row(1, 1), 1, false, api.ErrRange, nil, nil},
		{odds(), most, true, 0, odds(), evens()},
		{backwards(odds()), most, false, 0, odds(), evens()},
		{evens(), most, true, 0, evens(), odds()},
		{append(evens(), odds()...), most, false, 0, row(0, most), nil},
		{append(evens(), evens()...), most, false, api.ErrThere, nil, nil},

		// One span of 0 sectors, of fewer, of one, of more.
		{row(4, 0), 9, false, api.ErrRange, nil, nil},
		{row(0, 0), 9, false, api.ErrRange, nil, nil},
		{row(9, 0), 9, false, api.ErrRange, nil, nil},
		{row(4, -1), 9, false, api.ErrRange, nil, nil},
		{row(4, -4), 9, false, api.ErrRange, nil, nil},
		{row(4, math.MinInt), 9, false, api.ErrRange, nil, nil},
		{row(4, 1), 9, true, 0, row(4, 1), row(0, 4, 5, 4)},
		{row(0, 3), 9, true, 0, row(0, 3), row(3, 6)},
		{row(0, 9), 9, true, 0, row(0, 9), nil},

		// One that begins below 0, ends at size, at the sector behind it, begins there.
		{row(-1, 1), 9, false, api.ErrRange, nil, nil},
		{row(-1, 2), 9, false, api.ErrRange, nil, nil},
		{row(-1, 0), 9, false, api.ErrRange, nil, nil},
		{row(-3, 12), 9, false, api.ErrRange, nil, nil},
		{row(8, 1), 9, true, 0, row(8, 1), row(0, 8)},
		{row(7, 2), 9, true, 0, row(7, 2), row(0, 7)},
		{row(8, 2), 9, false, api.ErrRange, nil, nil},
		{row(9, 1), 9, false, api.ErrRange, nil, nil},
		{row(10, 1), 9, false, api.ErrRange, nil, nil},
		{row(0, 10), 9, false, api.ErrRange, nil, nil},
		{row(9, -3), 9, false, api.ErrRange, nil, nil},

		// Numbers whose sum is none, or goes round.
		{row(1, huge), 9, false, api.ErrRange, nil, nil},
		{row(0, huge), 9, false, api.ErrRange, nil, nil},
		{row(8, huge), 9, false, api.ErrRange, nil, nil},
		{row(huge, 1), 9, false, api.ErrRange, nil, nil},
		{row(huge, huge), 9, false, api.ErrRange, nil, nil},
		{row(huge, math.MinInt), 9, false, api.ErrRange, nil, nil},
		{row(math.MinInt, 1), 9, false, api.ErrRange, nil, nil},
		{row(math.MinInt, huge), 9, false, api.ErrRange, nil, nil},
		{row(math.MinInt, math.MinInt), 9, false, api.ErrRange, nil, nil},
		{row(1, 1<<32+1), 9, false, api.ErrRange, nil, nil},
		{row(1<<32+1, 1), 9, false, api.ErrRange, nil, nil},
		{row(1<<62, 1<<62), 9, false, api.ErrRange, nil, nil},
		{row(1, 1, 4, huge), 9, false, api.ErrRange, nil, nil},

		// Spans that touch, that have a gap of one sector, or a sector in common.
		{row(1, 2, 3, 2), 9, false, 0, row(1, 4), row(0, 1, 5, 4)},
		{row(3, 2, 1, 2), 9, false, 0, row(1, 4), row(0, 1, 5, 4)},
		{row(0, 1, 1, 1), 9, false, 0, row(0, 2), row(2, 7)},
		{row(7, 1, 8, 1), 9, false, 0, row(7, 2), row(0, 7)},
		{row(0, 4, 4, 5), 9, false, 0, row(0, 9), nil},
		{row(6, 3, 0, 3, 3, 3), 9, false, 0, row(0, 9), nil},
		{row(1, 2, 4, 2), 9, true, 0, row(1, 2, 4, 2), row(0, 1, 3, 1, 6, 3)},
		{row(0, 4, 5, 4), 9, true, 0, row(0, 4, 5, 4), row(4, 1)},
		{row(0, 1, 2, 1, 4, 1, 6, 1, 8, 1), 9, true, 0, row(0, 1, 2, 1, 4, 1, 6, 1, 8, 1), row(1, 1, 3, 1, 5, 1, 7, 1)},
		{row(0, 1, 8, 1), 9, true, 0, row(0, 1, 8, 1), row(1, 7)},
		{row(1, 2, 2, 2), 9, false, api.ErrThere, nil, nil},
		{row(2, 2, 1, 2), 9, false, api.ErrThere, nil, nil},
		{row(1, 1, 1, 1), 9, false, api.ErrThere, nil, nil},
		{row(1, 7, 3, 2), 9, false, api.ErrThere, nil, nil},
		{row(3, 2, 1, 7), 9, false, api.ErrThere, nil, nil},
		{row(0, 9, 8, 1), 9, false, api.ErrThere, nil, nil},
		{row(0, 1, 0, 9), 9, false, api.ErrThere, nil, nil},
		{row(0, 1, 5, 1, 2, 1, 5, 1), 9, false, api.ErrThere, nil, nil},
		{row(0, 6, 1, 1, 3, 1), 9, false, api.ErrThere, nil, nil},

		// Out of order, with gaps, and not.
		{row(4, 2, 1, 2), 9, false, 0, row(1, 2, 4, 2), row(0, 1, 3, 1, 6, 3)},
		{row(8, 1, 0, 1, 4, 1), 9, false, 0, row(0, 1, 4, 1, 8, 1), row(1, 3, 5, 3)},
		{row(5, 1, 0, 2, 6, 2, 2, 1), 9, false, 0, row(0, 3, 5, 3), row(3, 2, 8, 1)},

		// Out of range counts ahead of what is there twice, wherever it stands.
		{row(1, 2, 2, 2, 9, 1), 9, false, api.ErrRange, nil, nil},
		{row(9, 1, 1, 2, 2, 2), 9, false, api.ErrRange, nil, nil},
		{row(1, 1, 1, 0), 9, false, api.ErrRange, nil, nil},
		{row(1, 1, 1, 1, 5, -1), 9, false, api.ErrRange, nil, nil},
		{row(3, 1, 3, 1, -1, 1), 9, false, api.ErrRange, nil, nil},
		{row(8, 2, 8, 2), 9, false, api.ErrRange, nil, nil},
		{row(4, 0, 4, 0), 9, false, api.ErrRange, nil, nil},
		{row(3, 1, 3, 1), most + 1, false, api.ErrRange, nil, nil},
		{row(3, 1, 3, 1), 0, false, api.ErrRange, nil, nil},
		{row(0, 1, 3, 0), 9, false, api.ErrRange, nil, nil},
		{row(0, 1, 8, 2), 9, false, api.ErrRange, nil, nil},
	}
}

func TestP1Right(t *testing.T) {
	for _, c := range rows() {
		if got := span.Right(c.l, c.size); got != c.right {
			t.Errorf("Right(%v, %d): %v", c.l, c.size, got)
		}
	}
}

func TestP1RightOfASize(t *testing.T) {
	for _, size := range wrongSizes {
		for _, l := range [][]api.Span{nil, {}, row(0, 1), row(3, 1, 5, 2)} {
			if span.Right(l, size) {
				t.Errorf("Right(%v, %d)", l, size)
			}
		}
	}
	l := row(1, 2, 4, 2)
	for size := 1; size <= most; size++ {
		if span.Right(l, size) != (size >= 6) || !span.Right(nil, size) {
			t.Fatalf("Right(%v, %d), or that of nothing", l, size)
		}
	}
}

func TestP1Total(t *testing.T) {
	for _, c := range []struct {
		l    []api.Span
		want int
	}{
		{nil, 0}, {[]api.Span{}, 0},
		{row(1, 2), 2}, {row(0, most), most}, {row(1, 2, 4, 2), 4}, {odds(), most / 2},
		{row(4, 2, 1, 2), 4}, {row(1, 2, 3, 2), 4},
		// A row that is not right: each span counts for itself.
		{row(1, 2, 1, 2), 4}, {row(1, 5, 2, 1), 6}, {row(-7, 3), 3}, {row(9000, 9000), 9000},
		{row(1, 0), 0}, {row(1, -1), 0}, {row(1, -5, 2, 3), 3}, {row(2, 3, 1, -5), 3}, {row(1, 0, 2, 1, 3, 0), 1},
		{row(1, math.MinInt), 0}, {row(1, math.MinInt, 5, 4), 4}, {row(1, -1, 2, -1), 0},
		{row(1, math.MaxInt), math.MaxInt}, {row(math.MaxInt, math.MaxInt), math.MaxInt}, {row(math.MinInt, 7), 7},
		{row(1, 1<<62, 5, 1<<62-1), math.MaxInt},
		// Beyond its bounds an int goes round.
		{row(1, math.MaxInt, 1, 1), math.MinInt}, {row(1, math.MaxInt, 1, math.MaxInt, 1, 3), 1},
	} {
		if got := span.Total(c.l); got != c.want {
			t.Errorf("Total(%v): %d, not %d", c.l, got, c.want)
		}
	}
}

func TestP1Has(t *testing.T) {
	for _, c := range []struct {
		l       []api.Span
		in, out []int
	}{
		{nil, nil, []int{0, 1, -1, math.MaxInt, math.MinInt}},
		{row(1, 2, 4, 2), []int{1, 2, 4, 5}, []int{0, 3, 6, 7, -1, 8191, math.MaxInt, math.MinInt}},
		{row(0, 1), []int{0}, []int{-1, 1}},
		{row(0, most), []int{0, 1, most - 1}, []int{-1, most}},
		{row(most-1, 1), []int{most - 1}, []int{0, most - 2, most}},
		// Rows that are not right: out of order, touching, twice there, with spans of nothing, outside of any size.
		{row(4, 2, 1, 2), []int{1, 2, 4, 5}, []int{0, 3, 6}},
		{row(1, 2, 3, 2), []int{1, 2, 3, 4}, []int{0, 5}},
		{row(1, 5, 2, 1), []int{1, 2, 3, 4, 5}, []int{0, 6}},
		{row(3, 0), nil, []int{2, 3, 4}},
		{row(3, -2), nil, []int{0, 1, 2, 3, 4, 5}},
		{row(3, -2, 3, 1), []int{3}, []int{1, 2, 4}},
		{row(3, math.MinInt), nil, []int{0, 3, 4, math.MinInt, math.MaxInt}},
		{row(-3, 5), []int{-3, -1, 0, 1}, []int{-4, 2}},
		{row(20000, 2), []int{20000, 20001}, []int{19999, 20002}},
		// Numbers so great that the end has none.
		{row(5, math.MaxInt), []int{5, 6, math.MaxInt}, []int{4, 0, -1, math.MinInt}},
		{row(math.MaxInt, 1), []int{math.MaxInt}, []int{math.MaxInt - 1, 0, math.MinInt}},
		{row(math.MaxInt-1, 2), []int{math.MaxInt - 1, math.MaxInt}, []int{math.MaxInt - 2, 0, math.MinInt}},
		{row(math.MaxInt-1, 9), []int{math.MaxInt - 1, math.MaxInt}, []int{math.MaxInt - 2, 0, -1}},
		{row(math.MinInt, 1), []int{math.MinInt}, []int{math.MinInt + 1, 0, math.MaxInt}},
		{row(math.MinInt, 3), []int{math.MinInt, math.MinInt + 2}, []int{math.MinInt + 3, -1, 0, 1, 5, math.MaxInt}},
		{row(math.MinInt, math.MaxInt), []int{math.MinInt, -3, -2}, []int{-1, 0, math.MaxInt}},
		{row(-1, math.MaxInt), []int{-1, 0, 5, math.MaxInt - 2}, []int{-2, math.MaxInt - 1, math.MaxInt, math.MinInt}},
	} {
		for _, at := range c.in {
			if !span.Has(c.l, at) {
				t.Errorf("Has(%v, %d): false", c.l, at)
			}
		}
		for _, at := range c.out {
			if span.Has(c.l, at) {
				t.Errorf("Has(%v, %d): true", c.l, at)
			}
		}
	}
}

func TestP2NormAndRest(t *testing.T) {
	for _, c := range rows() {
		if got, e := span.Norm(c.l, c.size); !slices.Equal(got, c.norm) || e != c.e {
			t.Errorf("Norm(%v, %d): %v %d, not %v %d", c.l, c.size, got, e, c.norm, c.e)
		}
		if got, e := span.Rest(c.l, c.size); !slices.Equal(got, c.rest) || e != c.e {
			t.Errorf("Rest(%v, %d): %v %d, not %v %d", c.l, c.size, got, e, c.rest, c.e)
		}
	}
}

func TestP2OfAWrongSize(t *testing.T) {
	for _, size := range wrongSizes {
		for _, l := range [][]api.Span{nil, {}, row(0, 1), row(0, 1, 0, 1), row(-1, 0), row(0, 9000)} {
			if got, e := span.Norm(l, size); len(got) != 0 || e != api.ErrRange {
				t.Errorf("Norm(%v, %d): %v %d", l, size, got, e)
			}
			if got, e := span.Rest(l, size); len(got) != 0 || e != api.ErrRange {
				t.Errorf("Rest(%v, %d): %v %d", l, size, got, e)
			}
		}
	}
}

func TestP2OfALongRow(t *testing.T) {
	l := slices.Repeat(row(7, 1), 100000)
	if got, e := span.Norm(l, 9); len(got) != 0 || e != api.ErrThere {
		t.Error(got, e)
	}
	l[len(l)-1].Many = 0
	if got, e := span.Rest(l, 9); len(got) != 0 || e != api.ErrRange {
		t.Error(got, e)
	}
}

func TestP3Take(t *testing.T) {
	two := row(1, 4, 7, 2)
	for _, c := range []struct {
		l           []api.Span
		n           int
		taken, left []api.Span
		ok          bool
	}{
		{nil, 0, nil, nil, true},
		{[]api.Span{}, 0, nil, nil, true},
		{nil, 1, nil, nil, false},
		{nil, -1, nil, nil, false},
		{two, math.MinInt, nil, nil, false},
		{two, -2, nil, nil, false},
		{two, -1, nil, nil, false},
		{two, 0, nil, two, true},
		{two, 1, row(1, 1), row(2, 3, 7, 2), true},
		{two, 3, row(1, 3), row(4, 1, 7, 2), true},
		{two, 4, row(1, 4), row(7, 2), true},
		{two, 5, row(1, 4, 7, 1), row(8, 1), true},
		{two, 6, two, nil, true},
		{two, 7, nil, nil, false},
		{two, 8, nil, nil, false},
		{two, math.MaxInt, nil, nil, false},
		{row(0, 1), 1, row(0, 1), nil, true},
		{row(0, 1), 2, nil, nil, false},
		{row(0, 1, 2, 1, 4, 1), 2, row(0, 1, 2, 1), row(4, 1), true},
		{row(0, most), most, row(0, most), nil, true},
		{row(0, most), most - 1, row(0, most-1), row(most-1, 1), true},
		{row(0, most), most + 1, nil, nil, false},
		{odds(), most / 2, odds(), nil, true},
		{odds(), 1000, odds()[:1000], odds()[1000:], true},
		{odds(), most/2 + 1, nil, nil, false},
	} {
		taken, left, ok := span.Take(c.l, c.n)
		if !slices.Equal(taken, c.taken) || !slices.Equal(left, c.left) || ok != c.ok {
			t.Errorf("Take(%v, %d): %v, %v, %v; not %v, %v, %v", c.l, c.n, taken, left, ok, c.taken, c.left, c.ok)
		}
	}
}

func TestP3TakeOfAnyRowEnds(t *testing.T) {
	for _, l := range strange() {
		for _, n := range []int{math.MinInt, -1, 0, 1, 2, 3, 1 << 62, math.MaxInt - 1, math.MaxInt} {
			span.Take(l, n)
		}
	}
}

// strange is rows that are right for no size.
func strange() [][]api.Span {
	numbers := []int{math.MinInt, math.MinInt + 1, -2, -1, 0, 1, 2, 1 << 62, math.MaxInt - 1, math.MaxInt}
	var all [][]api.Span
	for _, a := range numbers {
		for _, b := range numbers {
			all = append(all, row(a, b), row(a, b, b, a), row(b, b, a, a, 1, 1), row(a, b, a, b, a, b))
		}
	}
	return all
}

func TestP1ToP3AnyRowEnds(t *testing.T) {
	for _, l := range strange() {
		for _, n := range append([]int{1, 2, 9, most}, wrongSizes...) {
			span.Total(l)
			span.Has(l, n)
			span.Right(l, n)
			span.Norm(l, n)
			span.Rest(l, n)
		}
	}
}

// model is the chapter's words of a small row, sector by sector.
type model struct {
	in    []int // how often each sector of the size is in a span
	wrong bool  // a span has no sector, or one that is none of the size
	twice bool
	right bool
}

func modelOf(l []api.Span, size int) model {
	m := model{in: make([]int, size), right: true}
	for i, s := range l {
		m.wrong = m.wrong || s.Many < 1
		for at := s.At; at < s.At+s.Many; at++ {
			if at < 0 || at >= size {
				m.wrong = true
				continue
			}
			m.in[at]++
			m.twice = m.twice || m.in[at] > 1
		}
		if i > 0 {
			last := l[i-1].At + l[i-1].Many - 1
			m.right = m.right && s.At-last >= 2
		}
	}
	m.right = m.right && !m.wrong
	return m
}

func (m model) e() api.Errno {
	switch {
	case m.wrong:
		return api.ErrRange
	case m.twice:
		return api.ErrThere
	}
	return api.OK
}

// of is the row of the sectors that are in so many spans.
func (m model) of(many int) []api.Span {
	var l []api.Span
	for at, n := range m.in {
		switch {
		case n != many:
		case at > 0 && m.in[at-1] == many:
			l[len(l)-1].Many++
		default:
			l = append(l, api.Span{At: at, Many: 1})
		}
	}
	return l
}

// check holds all calls of a row against the model, and what follows.
func check(t *testing.T, l []api.Span, size int) {
	t.Helper()
	m := modelOf(l, size)
	if got := span.Right(l, size); got != m.right {
		t.Fatalf("Right(%v, %d): %v", l, size, got)
	}
	norm, e := span.Norm(l, size)
	rest, f := span.Rest(l, size)
	if e != m.e() || f != m.e() {
		t.Fatalf("Norm, Rest(%v, %d): %d, %d, not %d", l, size, e, f, m.e())
	}
	if e != api.OK {
		if len(norm) != 0 || len(rest) != 0 {
			t.Fatalf("Norm, Rest(%v, %d): %v, %v beside an error", l, size, norm, rest)
		}
		return
	}
	if !slices.Equal(norm, m.of(1)) || !slices.Equal(rest, m.of(0)) {
		t.Fatalf("Norm, Rest(%v, %d): %v, %v, not %v, %v", l, size, norm, rest, m.of(1), m.of(0))
	}
	if span.Total(l) != span.Total(norm) || span.Total(norm)+span.Total(rest) != size {
		t.Fatalf("Total(%v): %d", l, span.Total(l))
	}
	for at := -2; at < size+2; at++ {
		want := at >= 0 && at < size && m.in[at] == 1
		if span.Has(l, at) != want || span.Has(norm, at) != want || span.Has(rest, at) != (at >= 0 && at < size && !want) {
			t.Fatalf("Has(%v, %d), of Norm, or of Rest", l, at)
		}
	}
	checkRest(t, norm, rest, size)
	checkTake(t, norm, size)
}

// checkRest: Rest of Rest is Norm, and all rows are right.
func checkRest(t *testing.T, norm, rest []api.Span, size int) {
	t.Helper()
	again, e := span.Rest(rest, size)
	same, f := span.Norm(norm, size)
	if !slices.Equal(again, norm) || !slices.Equal(same, norm) || e != api.OK || f != api.OK {
		t.Fatalf("%v: Rest of Rest %v %d, Norm of Norm %v %d", norm, again, e, same, f)
	}
	if !span.Right(norm, size) || !span.Right(rest, size) {
		t.Fatalf("not right for %d: %v, or %v", size, norm, rest)
	}
}

// checkTake: what is taken and what is left are all there was, none twice, the one ahead of the other.
func checkTake(t *testing.T, l []api.Span, size int) {
	t.Helper()
	total := span.Total(l)
	for _, n := range []int{-1, 0, 1, 2, total / 3, total / 2, total - 1, total, total + 1} {
		taken, left, ok := span.Take(l, n)
		if ok != (n >= 0 && n <= total) {
			t.Fatalf("Take(%v, %d): %v", l, n, ok)
		}
		if !ok {
			if len(taken) != 0 || len(left) != 0 {
				t.Fatalf("Take(%v, %d): %v, %v beside false", l, n, taken, left)
			}
			continue
		}
		if !span.Right(taken, size) || !span.Right(left, size) || span.Total(taken) != n {
			t.Fatalf("Take(%v, %d): %v, %v", l, n, taken, left)
		}
		all, e := span.Norm(slices.Concat(left, taken), size)
		if !slices.Equal(all, l) || e != api.OK {
			t.Fatalf("Take(%v, %d): %v, %v: in all %v %d", l, n, taken, left, all, e)
		}
		if len(taken) > 0 && len(left) > 0 {
			last := taken[len(taken)-1]
			if last.At+last.Many > left[0].At {
				t.Fatalf("Take(%v, %d): %v is not ahead of %v", l, n, taken, left)
			}
		}
	}
}

func TestP1ToP4AllSmallRows(t *testing.T) {
	for size := 1; size <= 4; size++ {
		var all []api.Span
		for at := -1; at <= size+1; at++ {
			for many := -1; many <= size+1; many++ {
				all = append(all, api.Span{At: at, Many: many})
			}
		}
		check(t, nil, size)
		for _, a := range all {
			check(t, []api.Span{a}, size)
			for _, b := range all {
				check(t, []api.Span{a, b}, size)
				for _, c := range all {
					check(t, []api.Span{a, b, c}, size)
				}
			}
		}
	}
}

func TestP4AllSetsOfAFewSectors(t *testing.T) {
	chance := rand.New(rand.NewSource(6))
	const size = 10
	for set := range 1 << size {
		var l []api.Span
		for at := range size {
			if set>>at&1 == 1 {
				l = append(l, api.Span{At: at, Many: 1})
			}
		}
		check(t, l, size)
		chance.Shuffle(len(l), func(i, j int) { l[i], l[j] = l[j], l[i] })
		check(t, l, size)
	}
}

func TestP4ByChance(t *testing.T) {
	chance := rand.New(rand.NewSource(7))
	for range 200 {
		size := 1 + chance.Intn(most)
		var l []api.Span
		for at := chance.Intn(3); at < size; {
			many := min(size-at, 1+chance.Intn(1+size/8))
			l = append(l, api.Span{At: at, Many: many})
			at += many + chance.Intn(3)
		}
		chance.Shuffle(len(l), func(i, j int) { l[i], l[j] = l[j], l[i] })
		check(t, l, size)
		if len(l) > 0 {
			l = append(l, api.Span{At: l[chance.Intn(len(l))].At, Many: 1})
			check(t, l, size)
			l = append(l, api.Span{At: size, Many: 1})
			check(t, l, size)
		}
	}
}

// calls is what may be done with a row, and the lists that are answered.
func calls() map[string]func(l []api.Span) [][]api.Span {
	return map[string]func(l []api.Span) [][]api.Span{
		"Right": func(l []api.Span) [][]api.Span { span.Right(l, 9); return nil },
		"Total": func(l []api.Span) [][]api.Span { span.Total(l); return nil },
		"Has":   func(l []api.Span) [][]api.Span { span.Has(l, 5); return nil },
		"Norm":  func(l []api.Span) [][]api.Span { a, _ := span.Norm(l, 9); return [][]api.Span{a} },
		"Rest":  func(l []api.Span) [][]api.Span { a, _ := span.Rest(l, 9); return [][]api.Span{a} },
		"Take 0": func(l []api.Span) [][]api.Span {
			a, b, _ := span.Take(l, 0)
			return [][]api.Span{a, b}
		},
		"Take 2": func(l []api.Span) [][]api.Span {
			a, b, _ := span.Take(l, 2)
			return [][]api.Span{a, b}
		},
		"Take 3": func(l []api.Span) [][]api.Span {
			a, b, _ := span.Take(l, 3)
			return [][]api.Span{a, b}
		},
		"Take all": func(l []api.Span) [][]api.Span {
			a, b, _ := span.Take(l, span.Total(l))
			return [][]api.Span{a, b}
		},
	}
}

// spoil writes into all of a list's places, and into those behind its length.
func spoil(l []api.Span) {
	l = l[:cap(l)]
	for i := range l {
		l[i] = api.Span{At: -77, Many: -77}
	}
}

func TestNoRowIsChangedOrShared(t *testing.T) {
	for _, given := range [][]api.Span{row(1, 2, 4, 2), row(4, 2, 1, 2), row(1, 2, 3, 2), row(3, 2, 1, 3), row(8, 2, 1, 1), row(0, 9), row(2, 0)} {
		for name, call := range calls() {
			// What lies behind the length would change each answer, were it read.
			whole := append(slices.Clone(given), row(7, 1, 0, 1)...)
			before := slices.Clone(whole)
			answers := call(whole[:len(given)])
			if !slices.Equal(whole, before) {
				t.Errorf("%s of %v: it is %v now", name, given, whole)
			}
			kept := make([][]api.Span, len(answers))
			for i, a := range answers {
				kept[i] = slices.Clone(a)
			}
			for i, a := range answers {
				alone := call(slices.Clip(slices.Clone(given)))
				if !slices.Equal(a, alone[i]) {
					t.Errorf("%s of %v: %v, not %v: it reads behind the length", name, given, a, alone[i])
				}
			}
			spoil(whole)
			for i, a := range answers {
				if !slices.Equal(a, kept[i]) {
					t.Errorf("%s of %v: the answer %v shares its places", name, given, kept[i])
				}
			}
			checkApart(t, name, call, given)
		}
	}
}

// checkApart: a list of an answer may be written into, and neither the row nor another list is another one.
func checkApart(t *testing.T, name string, call func(l []api.Span) [][]api.Span, given []api.Span) {
	t.Helper()
	for i := range call(given) {
		l := slices.Clone(given)
		answers, alone := call(l), call(given)
		spoil(answers[i])
		if !slices.Equal(l, given) {
			t.Errorf("%s of %v: list %d of the answer lies within the row", name, given, i)
		}
		for j := range answers {
			if j != i && !slices.Equal(answers[j], alone[j]) {
				t.Errorf("%s of %v: lists %d and %d of the answer lie within each other", name, given, i, j)
			}
		}
	}
}
