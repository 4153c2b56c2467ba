package dev_test

import (
	"math"
	"math/rand"
	"slices"
	"strings"
	"testing"

	"rootcellar/api"
	"rootcellar/dev"
)

const size = 64 // the chapter's own number, so that another one of api would be seen

// full is a sector of one letter; the dot stands for noughts, as in said.
func full(letter byte) string {
	if letter == '.' {
		letter = 0
	}
	return strings.Repeat(string([]byte{letter}), size)
}

func made(t *testing.T, sectors int) *dev.Device {
	t.Helper()
	d, e := dev.New(sectors)
	if d == nil || e != api.OK {
		t.Fatalf("New(%d): %v %d", sectors, d, e)
	}
	return d
}

// said is the sectors, a letter each; `!` where one is not all of one byte, `down` where the power is away.
func said(d *dev.Device) string {
	var letters []byte
	for at := range d.Sectors() {
		s, e := d.Read(at)
		switch {
		case e == api.ErrDown:
			return "down"
		case e != api.OK || len(s) != size || s != strings.Repeat(s[:1], size):
			letters = append(letters, '!')
		case s[0] == 0:
			letters = append(letters, '.')
		default:
			letters = append(letters, s[0])
		}
	}
	return string(letters)
}

// do writes and flushes by words: `0a` writes the letter a to sector 0, `f` flushes; all must be done.
func do(t *testing.T, d *dev.Device, words string) {
	t.Helper()
	for _, w := range strings.Fields(words) {
		if e := act(d, w); e != api.OK {
			t.Fatalf("%s of %q: %d", w, words, e)
		}
	}
}

func act(d *dev.Device, word string) api.Errno {
	if word == "f" {
		return d.Flush()
	}
	return d.Write(int(word[0]-'0'), full(word[1]))
}

// left tells how many writes and flushes are done until the power goes: -1, if it does not. It asks a clone.
func left(d *dev.Device) int {
	c := d.Clone()
	for n := range 50 {
		if e := c.Flush(); e == api.ErrDown {
			return n
		}
	}
	return -1
}

// state is all that is to be seen of a device without a change.
type state struct {
	sectors string
	pending int
	down    bool
	left    int
}

func seen(d *dev.Device) state { return state{said(d), d.Pending(), d.Down(), left(d)} }

func (s state) check(t *testing.T, d *dev.Device, when string) {
	t.Helper()
	if got := seen(d); got != s {
		t.Errorf("%s: %+v, not %+v", when, got, s)
	}
}

func TestExamples(t *testing.T) {
	d := made(t, 1)
	do(t, d, "0a f 0b 0c")
	d.Power([]int{1})
	if said(d) != "b" {
		t.Error("the first one:", said(d))
	}
	d = made(t, 1)
	d.Arm(1)
	do(t, d, "0a")
	if e := act(d, "0b"); e != api.ErrDown {
		t.Error("the second write:", e)
	}
	d.Power([]int{1, 1})
	if said(d) != "a" {
		t.Error("the second one:", said(d))
	}
}

func TestD1New(t *testing.T) {
	for _, n := range []int{math.MinInt, math.MinInt32, -8192, -1, 0, 8193, 8194, 65536, math.MaxInt32, math.MaxInt} {
		if d, e := dev.New(n); d != nil || e != api.ErrArg {
			t.Errorf("New(%d): %v %d", n, d, e)
		}
	}
	for _, n := range []int{1, 2, 63, 64, 65, 8191, 8192} {
		d := made(t, n)
		if d.Sectors() != n {
			t.Errorf("New(%d): %d sectors", n, d.Sectors())
		}
		state{strings.Repeat(".", n), 0, false, -1}.check(t, d, "a new one")
	}
}

func TestD1NewOnesAreApart(t *testing.T) {
	a, b := made(t, 2), made(t, 2)
	do(t, a, "0x f 1y")
	a.Arm(3)
	state{"..", 0, false, -1}.check(t, b, "one beside another")
}

// ats is where a sector of n may be, and what lies beyond.
func ats(n int) []int {
	return []int{math.MinInt, math.MinInt32, -n, -1, 0, 1, n - 2, n - 1, n, n + 1, 8191, 8192, math.MaxInt32, math.MaxInt}
}

func TestD1Read(t *testing.T) {
	for _, n := range []int{1, 2, 3, 8192} {
		d := made(t, n)
		do(t, d, "0a f")
		if e := d.Write(n-1, full('z')); e != api.OK {
			t.Fatal(e)
		}
		for _, at := range ats(n) {
			want, wantErr := full('.'), api.OK
			switch {
			case at < 0 || at >= n:
				want, wantErr = "", api.ErrRange
			case at == n-1:
				want = full('z')
			case at == 0:
				want = full('a')
			}
			if s, e := d.Read(at); s != want || e != wantErr {
				t.Errorf("of %d: Read(%d): %q %d, not %q %d", n, at, s, e, want, wantErr)
			}
		}
		d.Arm(0)
		d.Flush()
		for _, at := range ats(n) {
			if s, e := d.Read(at); s != "" || e != api.ErrDown {
				t.Errorf("of %d, down: Read(%d): %q %d", n, at, s, e)
			}
		}
	}
}

func TestD1ReadTellsWhatWasWrittenLast(t *testing.T) {
	d := made(t, 3)
	for _, c := range []struct{ word, want string }{
		{"1a", ".a."}, {"1b", ".b."}, {"f", ".b."}, {"1c", ".c."}, {"0c", "cc."}, {"1a", "ca."}, {"f", "ca."}, {"f", "ca."}, {"2z", "caz"}, {"1.", "c.z"},
	} {
		do(t, d, c.word)
		if said(d) != c.want {
			t.Errorf("behind %s: %s, not %s", c.word, said(d), c.want)
		}
	}
}

func TestD2TextsAreBytes(t *testing.T) {
	var all []byte
	for b := range 256 {
		all = append(all, byte(b))
	}
	d := made(t, 6)
	texts := []string{
		string(all[:64]), string(all[64:128]), string(all[128:192]), string(all[192:]),
		strings.Repeat("\xef\xbf\xbd\xff", 16), strings.Repeat("é", 32),
	}
	for at, s := range texts {
		if e := d.Write(at, s); e != api.OK {
			t.Errorf("Write(%d, %q): %d", at, s, e)
		}
	}
	for _, then := range []func(){func() {}, func() { d.Power([]int{1, 1, 1, 1, 1, 1}) }} {
		then()
		for at, s := range texts {
			if got, e := d.Read(at); got != s || e != api.OK {
				t.Errorf("Read(%d): %q %d, not %q", at, got, e, s)
			}
		}
	}
}

func TestD2WriteErrors(t *testing.T) {
	lengths := []int{0, 1, 32, 63, 64, 65, 128, 5000}
	for _, armed := range []int{-1, 0, 1, 2} {
		for _, at := range ats(3) {
			for _, n := range lengths {
				d := made(t, 3)
				do(t, d, "0a f 1b")
				d.Arm(armed)
				want, then := api.OK, state{"ab.", 1, false, armed}
				switch {
				case at < 0 || at > 2:
					want = api.ErrRange
				case n != 64:
					want = api.ErrArg
				case armed == 0:
					want, then = api.ErrDown, state{"down", 1, true, 0}
				default:
					b := []byte(then.sectors)
					b[at] = 'x'
					then = state{string(b), 2, false, max(armed-1, -1)}
				}
				if e := d.Write(at, strings.Repeat("x", n)); e != want {
					t.Errorf("armed with %d: Write(%d, of %d bytes): %d, not %d", armed, at, n, e, want)
				}
				then.check(t, d, "behind it")
			}
		}
	}
}

func TestD2FirstErrorOfTwo(t *testing.T) {
	d := made(t, 2)
	if e := d.Write(2, "short"); e != api.ErrRange {
		t.Error("out of range, and short:", e)
	}
	if e := d.Write(-1, full('x')+"x"); e != api.ErrRange {
		t.Error("out of range, and long:", e)
	}
	d.Arm(0)
	d.Flush()
	for _, at := range ats(2) {
		for _, s := range []string{"", "short", full('x'), full('x') + "x"} {
			if e := d.Write(at, s); e != api.ErrDown {
				t.Errorf("down: Write(%d, %q): %d", at, s, e)
			}
		}
	}
}

func TestD2Pending(t *testing.T) {
	d := made(t, 2)
	for _, c := range []struct {
		word string
		want int
	}{{"f", 0}, {"0a", 1}, {"0a", 2}, {"0b", 3}, {"1b", 4}, {"f", 0}, {"f", 0}, {"0b", 1}} {
		do(t, d, c.word)
		if d.Pending() != c.want {
			t.Errorf("behind %s: %d pending, not %d", c.word, d.Pending(), c.want)
		}
	}
}

func TestD2FlushLasts(t *testing.T) {
	d := made(t, 3)
	do(t, d, "0a 1b 0c f 1d 2e")
	d.Power(nil)
	state{"cb.", 0, false, -1}.check(t, d, "behind the flush")
}

func TestD2Arm(t *testing.T) {
	words := []string{"0a", "f", "1b", "1c", "f", "f", "0d"}
	for n := range len(words) {
		d := made(t, 2)
		d.Arm(n)
		for i, w := range words {
			// What only asks, and what errs for another reason, does not count.
			d.Read(0)
			d.Read(9)
			d.Sectors()
			d.Down()
			d.Pending()
			d.Clone()
			early := i <= n
			if got, want := d.Write(2, full('x')) == api.ErrRange && d.Write(0, "x") == api.ErrArg, early; got != want {
				t.Errorf("armed with %d: at %d the wrong writes say %v", n, i, got)
			}
			if got := act(d, w); (got == api.OK) != (i < n) || got != api.OK && got != api.ErrDown {
				t.Errorf("armed with %d: %s at %d: %d", n, w, i, got)
			}
			if d.Down() != (i >= n) {
				t.Errorf("armed with %d: behind %d: down: %v", n, i, d.Down())
			}
		}
	}
}

func TestD2ArmAgain(t *testing.T) {
	for _, c := range []struct {
		arms []int
		want int
	}{
		{[]int{0, -1}, -1}, {[]int{0, -7}, -1}, {[]int{3, math.MinInt}, -1}, {[]int{-1, 0}, 0}, {[]int{-5, 2}, 2},
		{[]int{1, 7}, 7}, {[]int{7, 1}, 1}, {[]int{4, 4}, 4}, {[]int{0, 5, -1, 3}, 3}, {[]int{math.MaxInt}, -1}, {[]int{math.MinInt}, -1},
	} {
		d := made(t, 1)
		for _, n := range c.arms {
			d.Arm(n)
		}
		if got := left(d); got != c.want {
			t.Errorf("armed with %v: %d left, not %d", c.arms, got, c.want)
		}
	}
	d := made(t, 1)
	d.Arm(3)
	do(t, d, "0a f")
	d.Arm(3)
	if left(d) != 3 {
		t.Error("armed again behind two:", left(d))
	}
	do(t, d, "0b")
	d.Arm(-1)
	state{"b", 1, false, -1}.check(t, d, "not armed any more")
}

func TestD2NotArmedForLong(t *testing.T) {
	d := made(t, 1)
	d.Arm(-1)
	for i := range 3000 {
		if e := d.Write(0, full('a'+byte(i%26))); e != api.OK {
			t.Fatal(i, e)
		}
	}
	if d.Pending() != 3000 || d.Flush() != api.OK || d.Pending() != 0 {
		t.Error("pending:", d.Pending())
	}
}

func TestD2TheFlushThatIsBroken(t *testing.T) {
	for _, c := range []struct {
		keep []int
		want string
	}{{nil, "a."}, {[]int{1}, "b."}, {[]int{1, 1}, "bc"}, {[]int{0, 1}, "ac"}} {
		d := made(t, 2)
		do(t, d, "0a f 0b 1c")
		d.Arm(0)
		if e := d.Flush(); e != api.ErrDown {
			t.Error(e)
		}
		state{"down", 2, true, 0}.check(t, d, "the flush")
		d.Power(c.keep)
		state{c.want, 0, false, -1}.check(t, d, "the power is on")
	}
}

func TestD2TheWriteThatIsBroken(t *testing.T) {
	d := made(t, 2)
	d.Arm(1)
	do(t, d, "0a")
	for range 3 {
		if e := act(d, "1b"); e != api.ErrDown {
			t.Error(e)
		}
		state{"down", 1, true, 0}.check(t, d, "the write")
	}
	d.Power([]int{1, 1, 1, 1})
	state{"a.", 0, false, -1}.check(t, d, "the power is on")
}

func TestD2AllCallsWhileThePowerIsAway(t *testing.T) {
	d := made(t, 3)
	do(t, d, "0a f 1b 2c")
	d.Arm(0)
	d.Flush()
	for _, n := range []int{-1, 0, 5, -1} {
		d.Arm(n) // no arming has the power on
		if s, e := d.Read(0); s != "" || e != api.ErrDown {
			t.Errorf("Read: %q %d", s, e)
		}
		if e := d.Write(0, full('x')); e != api.ErrDown {
			t.Error("Write:", e)
		}
		if e := d.Flush(); e != api.ErrDown {
			t.Error("Flush:", e)
		}
		if d.Sectors() != 3 || !d.Down() || d.Pending() != 2 {
			t.Error(d.Sectors(), d.Down(), d.Pending())
		}
	}
	d.Arm(0)
	d.Power([]int{0, 1})
	state{"a.c", 0, false, -1}.check(t, d, "the power is on")
}

func TestD3Power(t *testing.T) {
	for _, c := range []struct {
		keep []int
		want string
	}{
		{nil, "a.z"},
		{[]int{}, "a.z"},
		{[]int{1}, "b.z"},
		{[]int{0, 1}, "acz"},
		{[]int{0, 0, 1}, "d.z"},
		{[]int{0, 0, 0, 1}, "aez"},
		{[]int{1, 1}, "bcz"},
		{[]int{1, 0, 1}, "d.z"},
		{[]int{1, 1, 1, 1}, "dez"},
		{[]int{1, 1, 1, 1, 1, 1, 1}, "dez"},
		{[]int{0, 0, 0, 0, 1, 1, 1}, "a.z"},
		{[]int{2, 4, -2, math.MinInt, 3}, "a.z"},
		{[]int{-1}, "b.z"},
		{[]int{-2, -3}, "acz"},
		{[]int{7, -7, 8, -8}, "bcz"},
		{[]int{math.MaxInt, math.MaxInt - 1, math.MinInt + 1, math.MinInt}, "d.z"},
		{[]int{255, 256, 257, 258}, "d.z"},
	} {
		for _, down := range []bool{false, true} {
			d := made(t, 3)
			do(t, d, "0y 0a 2z f 0b 1c 0d 1e")
			d.Arm(5)
			if down {
				d.Arm(0)
				d.Flush()
			}
			d.Power(c.keep)
			state{c.want, 0, false, -1}.check(t, d, "Power of some")
			d.Power([]int{1, 1, 1, 1, 1, 1, 1})
			state{c.want, 0, false, -1}.check(t, d, "Power of nothing pending")
			do(t, d, "1x")
			d.Power(nil)
			state{c.want, 0, false, -1}.check(t, d, "what was kept lasts")
			do(t, d, "1x")
			d.Power([]int{1})
			state{c.want[:1] + "x" + c.want[2:], 0, false, -1}.check(t, d, "the numbers begin anew")
		}
	}
}

func TestD3PowerOfANewOne(t *testing.T) {
	d := made(t, 2)
	d.Arm(0)
	d.Flush()
	d.Power([]int{1, 1})
	state{"..", 0, false, -1}.check(t, d, "nothing written")
	do(t, d, "0a 1b")
	d.Power([]int{0, 1})
	state{".b", 0, false, -1}.check(t, d, "never flushed")
}

func TestD3KeepIsNeitherWrittenNorKeptNorReadBehindItsLength(t *testing.T) {
	d := made(t, 3)
	do(t, d, "0a 1b 2c")
	whole := []int{1, 0, 1, 9}
	d.Power(whole[:2])
	if !slices.Equal(whole, []int{1, 0, 1, 9}) {
		t.Error("written into:", whole)
	}
	whole[0], whole[1] = 0, 1
	state{"a..", 0, false, -1}.check(t, d, "the list is another one")
}

// devices is devices in unlike states: armed, with writes pending, with the power away.
func devices(t *testing.T) map[string]*dev.Device {
	ds := map[string]*dev.Device{}
	for _, name := range []string{"new", "flushed", "armed", "pending", "armed, pending", "down", "down, armed again", "powered"} {
		d := made(t, 3)
		ds[name] = d
		if name == "new" {
			continue
		}
		do(t, d, "0a 1b f")
		if strings.Contains(name, "pending") || strings.Contains(name, "down") || name == "powered" {
			do(t, d, "1c 2d 1e")
		}
		switch name {
		case "armed", "armed, pending":
			d.Arm(3)
		case "down", "down, armed again":
			d.Arm(0)
			d.Flush()
		case "powered":
			d.Power([]int{0, 1, 1})
		}
		if name == "down, armed again" {
			d.Arm(2)
		}
	}
	return ds
}

// ways is what may become of a device.
func ways() map[string]func(d *dev.Device) {
	return map[string]func(d *dev.Device){
		"write":  func(d *dev.Device) { act(d, "0x"); act(d, "2y") },
		"flush":  func(d *dev.Device) { act(d, "1x"); d.Flush() },
		"arm":    func(d *dev.Device) { d.Arm(1) },
		"disarm": func(d *dev.Device) { d.Arm(-1) },
		"down":   func(d *dev.Device) { d.Arm(0); d.Flush() },
		"forget": func(d *dev.Device) { d.Power(nil) },
		"keep":   func(d *dev.Device) { d.Power([]int{1, 1, 1}) },
		"forget+": func(d *dev.Device) {
			d.Power(nil)
			act(d, "0p")
			act(d, "1q")
			act(d, "2r")
			d.Flush()
			act(d, "0s")
		},
		"clone": func(d *dev.Device) { act(d.Clone(), "0x") },
	}
}

// whole is all that is to be seen of a device, and of what comes of it for each choice of pending writes.
func whole(d *dev.Device) []state {
	all := []state{seen(d)}
	for choice := range 16 {
		c := d.Clone()
		c.Power([]int{choice & 1, choice >> 1 & 1, choice >> 2 & 1, choice >> 3 & 1})
		all = append(all, seen(c))
	}
	return all
}

func TestD3Clone(t *testing.T) {
	for name := range devices(t) {
		for first, one := range ways() {
			for second, two := range ways() {
				// Each of both must be as a device that was never cloned.
				d, alone, other := devices(t)[name], devices(t)[name], devices(t)[name]
				c := d.Clone()
				if c == nil || c == d || c.Sectors() != d.Sectors() || !slices.Equal(whole(c), whole(alone)) {
					t.Fatalf("%s: the clone is not like it", name)
				}
				one(d)
				one(alone)
				if !slices.Equal(whole(d), whole(alone)) || !slices.Equal(whole(c), whole(other)) {
					t.Errorf("%s: %s of it: it, or its clone, is not as it must be", name, first)
				}
				two(c)
				two(other)
				if !slices.Equal(whole(d), whole(alone)) || !slices.Equal(whole(c), whole(other)) {
					t.Errorf("%s: %s of it, %s of its clone: one is not as it must be", name, first, second)
				}
			}
		}
	}
}

func TestD3TheCloneGoesOn(t *testing.T) {
	d := made(t, 2)
	do(t, d, "0a f 1b")
	d.Arm(1)
	c := d.Clone()
	do(t, c, "0c")
	if e := c.Flush(); e != api.ErrDown {
		t.Error("the clone is armed likewise:", e)
	}
	state{"ab", 1, false, 1}.check(t, d, "it")
	state{"down", 2, true, 0}.check(t, c, "the clone")
	c.Power([]int{0, 1})
	state{"c.", 0, false, -1}.check(t, c, "the clone, on again")
	d.Power([]int{1})
	state{"ab", 0, false, -1}.check(t, d, "it, powered")
}

// model is the chapter's words, with nothing worked out ahead: what lasts, and the writes behind it.
type model struct {
	lasting []string
	ats     []int
	texts   []string
	armed   bool
	number  int
	down    bool
}

func (m *model) read(at int) string {
	s := m.lasting[at]
	for i, a := range m.ats {
		if a == at {
			s = m.texts[i]
		}
	}
	return s
}

func (m *model) counts() bool {
	if m.armed && m.number == 0 {
		m.down = true
	}
	if m.armed {
		m.number--
	}
	return !m.down
}

func (m *model) write(at int, s string) api.Errno {
	switch {
	case m.down:
		return api.ErrDown
	case at < 0 || at >= len(m.lasting):
		return api.ErrRange
	case len(s) != size:
		return api.ErrArg
	case !m.counts():
		return api.ErrDown
	}
	m.ats, m.texts = append(m.ats, at), append(m.texts, s)
	return api.OK
}

func (m *model) flush() api.Errno {
	if m.down || !m.counts() {
		return api.ErrDown
	}
	for at := range m.lasting {
		m.lasting[at] = m.read(at)
	}
	m.ats, m.texts = nil, nil
	return api.OK
}

func (m *model) power(keep []int) {
	for i, at := range m.ats {
		if i < len(keep) && (keep[i]-1)%2 == 0 {
			m.lasting[at] = m.texts[i]
		}
	}
	m.ats, m.texts, m.armed, m.down = nil, nil, false, false
}

func (m *model) check(t *testing.T, d *dev.Device) {
	t.Helper()
	if d.Down() != m.down || d.Pending() != len(m.ats) || d.Sectors() != len(m.lasting) {
		t.Fatalf("down %v, %d pending, of %d; not %v, %d, of %d", d.Down(), d.Pending(), d.Sectors(), m.down, len(m.ats), len(m.lasting))
	}
	for at := range m.lasting {
		want, wantErr := m.read(at), api.OK
		if m.down {
			want, wantErr = "", api.ErrDown
		}
		if s, e := d.Read(at); s != want || e != wantErr {
			t.Fatalf("Read(%d): %q %d, not %q %d", at, s, e, want, wantErr)
		}
	}
}

// numbers is numbers of any kind, as many as there may be pending writes, or fewer, or more.
func numbers(chance *rand.Rand) []int {
	keep := make([]int, chance.Intn(8))
	for i := range keep {
		keep[i] = int(chance.Uint64()) >> chance.Intn(64)
	}
	return keep
}

func TestD1ToD3ByAModel(t *testing.T) {
	chance := rand.New(rand.NewSource(4))
	for range 300 {
		n := 1 + chance.Intn(4)
		d, m := made(t, n), &model{lasting: slices.Repeat([]string{full('.')}, n)}
		for range 150 {
			step(t, chance, d, m)
			m.check(t, d)
			if chance.Intn(10) == 0 {
				c := d.Clone()
				d.Write(0, full('!'))
				d.Power(numbers(chance))
				d = c
			}
		}
	}
}

func step(t *testing.T, chance *rand.Rand, d *dev.Device, m *model) {
	t.Helper()
	switch chance.Intn(10) {
	case 0:
		if got, want := d.Flush(), m.flush(); got != want {
			t.Fatalf("Flush: %d, not %d", got, want)
		}
	case 1:
		n := chance.Intn(9) - 2
		d.Arm(n)
		m.armed, m.number = n >= 0, n
	case 2:
		keep := numbers(chance)
		d.Power(keep)
		m.power(keep)
	default:
		at, s := chance.Intn(len(m.lasting)+2)-1, full(byte(chance.Intn(256)))
		if chance.Intn(9) == 0 {
			s = s[chance.Intn(3):]
		}
		if got, want := d.Write(at, s), m.write(at, s); got != want {
			t.Fatalf("Write(%d, %q): %d, not %d", at, s, got, want)
		}
	}
}

func TestD4WhatFollows(t *testing.T) {
	chance := rand.New(rand.NewSource(5))
	for range 2000 {
		n := 1 + chance.Intn(4)
		d := made(t, n)
		may := make([][]string, n) // what each sector may be: first what it was at the last flush
		for at := range n {
			s := full('a' + byte(at))
			d.Write(at, s)
			may[at] = []string{s}
		}
		d.Flush()
		d.Arm(chance.Intn(12) - 1)
		for range 8 {
			at, s := chance.Intn(n), full(byte(chance.Intn(256)))
			if d.Write(at, s) == api.OK {
				may[at] = append(may[at], s)
			}
		}
		pending := d.Pending()
		all, none := d.Clone(), d.Clone()
		d.Power(numbers(chance))
		all.Power(slices.Repeat([]int{1}, pending))
		none.Power(nil)
		for at, ones := range may {
			s, _ := d.Read(at)
			last, _ := all.Read(at)
			first, _ := none.Read(at)
			if !slices.Contains(ones, s) || last != ones[len(ones)-1] || first != ones[0] {
				t.Fatalf("sector %d: some kept %q, all %q, none %q, of %q", at, s, last, first, ones)
			}
		}
	}
}
