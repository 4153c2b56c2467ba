package vol_test

import (
	"encoding/binary"
	"fmt"
	"hash/crc32"
	"math"
	"math/rand"
	"slices"
	"strings"
	"testing"

	"rootcellar/api"
	"rootcellar/dev"
	"rootcellar/dir"
	"rootcellar/vol"
)

// The chapters' own numbers, so that other ones of the program would be seen.
const (
	sector    = 64
	most      = 8192 // sectors
	mostBytes = 20000
	mostFiles = 120
	mostSpans = 200
)

// noughts is a sector that nothing was written to.
var noughts = strings.Repeat("\x00", sector)

// row is spans, each by its first sector and how many it has.
func row(numbers ...int) []api.Span {
	var l []api.Span
	for i := 0; i+1 < len(numbers); i += 2 {
		l = append(l, api.Span{At: numbers[i], Many: numbers[i+1]})
	}
	return l
}

// singles is so many spans of one sector, the first one at a sector, with one sector between.
func singles(at, many int) []api.Span {
	var l []api.Span
	for i := range many {
		l = append(l, api.Span{At: at + 2*i, Many: 1})
	}
	return l
}

func of(name string, size int, spans ...int) dir.File {
	return dir.File{Name: name, Size: size, Spans: row(spans...)}
}

// long is a text of so many bytes, no two sectors of which are alike.
func long(letter byte, many int) string {
	b := make([]byte, many)
	for i := range b {
		b[i] = letter + byte(i/sector%9)*3 + byte(i/(sector*9))
	}
	return string(b)
}

func repeat(many int) string { return strings.Repeat("q", many) }

// padded is a text, and noughts up to the end of its last sector.
func padded(s string) string {
	for len(s)%sector != 0 {
		s += "\x00"
	}
	return s
}

// ats is the sectors of spans, in their order; runs is the spans of sectors that rise.
func ats(l []api.Span) []int {
	var all []int
	for _, s := range l {
		for i := range s.Many {
			all = append(all, s.At+i)
		}
	}
	return all
}

func runs(l []int) []api.Span {
	var all []api.Span
	for _, at := range l {
		if last := len(all) - 1; last >= 0 && all[last].At+all[last].Many == at {
			all[last].Many++
		} else {
			all = append(all, api.Span{At: at, Many: 1})
		}
	}
	return all
}

// sealed is bytes with their sum, as the library tells it.
func sealed(b []byte) string {
	return string(binary.LittleEndian.AppendUint32(b, crc32.ChecksumIEEE(b)))
}

func spansOf(b []byte, l []api.Span) []byte {
	b = append(b, byte(len(l)))
	for _, s := range l {
		b = binary.LittleEndian.AppendUint16(b, uint16(s.At))
		b = binary.LittleEndian.AppendUint16(b, uint16(s.Many))
	}
	return b
}

// headOf and directoryOf are the bytes that the chapters of head and dir say.
func headOf(gen uint64, sectors, size int, own []api.Span) string {
	b := binary.LittleEndian.AppendUint64([]byte("rtcl"), gen)
	b = binary.LittleEndian.AppendUint16(b, uint16(sectors))
	b = binary.LittleEndian.AppendUint32(b, uint32(size))
	b = spansOf(b, own)
	for len(b) < sector-4 {
		b = append(b, 0)
	}
	return sealed(b)
}

func directoryOf(l []dir.File) string {
	b := []byte{byte(len(l))}
	for _, f := range l {
		b = append(append(b, byte(len(f.Name))), f.Name...)
		b = binary.LittleEndian.AppendUint32(b, uint32(f.Size))
		b = spansOf(b, f.Spans)
	}
	return sealed(b)
}

// empties is so many files of no bytes.
func empties(many int) []dir.File {
	var l []dir.File
	for i := range many {
		l = append(l, of(fmt.Sprintf("%03d", i), 0))
	}
	return l
}

func device(t *testing.T, sectors int) *dev.Device {
	t.Helper()
	d, e := dev.New(sectors)
	if e != api.OK {
		t.Fatal(sectors, e)
	}
	return d
}

// dark is a device whose power is away.
func dark(t *testing.T, sectors int) *dev.Device {
	t.Helper()
	d := device(t, sectors)
	d.Arm(0)
	d.Flush()
	return d
}

// inked is a device of which each sector has been written, no two alike.
func inked(t *testing.T, sectors int) *dev.Device {
	t.Helper()
	d := device(t, sectors)
	for at := range sectors {
		lay(t, d, row(at, 1), inkOf(at))
	}
	ok(t, d.Flush())
	return d
}

func inkOf(at int) string { return fmt.Sprintf("%64d", at) }

// lay writes a text to the sectors of spans.
func lay(t *testing.T, d *dev.Device, l []api.Span, s string) {
	t.Helper()
	s = padded(s)
	for i, at := range ats(l) {
		ok(t, d.Write(at, s[i*sector:(i+1)*sector]))
	}
}

// crafted is a device with a head in a slot that is made by hand, and the directory that it tells of; all other sectors are inked, but for the other slot.
func crafted(t *testing.T, sectors, slot int, gen uint64, own []api.Span, l []dir.File) *dev.Device {
	t.Helper()
	d := inked(t, sectors)
	lay(t, d, row(1-slot, 1), noughts)
	add(t, d, slot, gen, own, l)
	return d
}

// add lays a directory, and a head in a slot, on a device.
func add(t *testing.T, d *dev.Device, slot int, gen uint64, own []api.Span, l []dir.File) {
	t.Helper()
	text := directoryOf(l)
	lay(t, d, own, text)
	lay(t, d, row(slot, 1), headOf(gen, d.Sectors(), len(text), own))
	ok(t, d.Flush())
}

func ok(t *testing.T, e api.Errno) {
	t.Helper()
	is(t, e, api.OK)
}

func is(t *testing.T, e, want api.Errno) {
	t.Helper()
	if e != want {
		t.Fatalf("%d, not %d", e, want)
	}
}

func format(t *testing.T, d *dev.Device) *vol.Volume {
	t.Helper()
	v, e := vol.Format(d)
	if v == nil || e != api.OK {
		t.Fatal(e)
	}
	return v
}

func mount(t *testing.T, d *dev.Device) *vol.Volume {
	t.Helper()
	v, e := vol.Mount(d)
	if v == nil || e != api.OK {
		t.Fatal(e)
	}
	return v
}

func made(t *testing.T, sectors int) (*dev.Device, *vol.Volume) {
	t.Helper()
	d := device(t, sectors)
	return d, format(t, d)
}

// put writes files, name and text by turns, and commits.
func put(t *testing.T, v *vol.Volume, l ...string) {
	t.Helper()
	x := v.Begin()
	for i := 0; i+1 < len(l); i += 2 {
		ok(t, x.Write(l[i], l[i+1]))
	}
	ok(t, x.Commit())
}

// teller is what a volume and a Tx tell alike.
type teller interface {
	Files() []dir.File
	Read(name string) (string, api.Errno)
}

// said is all files, with their bytes.
func said(t *testing.T, v teller) string {
	t.Helper()
	out := ""
	for _, f := range v.Files() {
		s, e := v.Read(f.Name)
		ok(t, e)
		if len(s) != f.Size {
			t.Error(f.Name, "has", len(s), "bytes, and not", f.Size)
		}
		out += f.Name + "=" + s + " "
	}
	return out
}

func reads(t *testing.T, v teller, name, want string) {
	t.Helper()
	if s, e := v.Read(name); s != want || e != api.OK {
		t.Errorf("%q: %q %d, not %q", name, s, e, want)
	}
}

func same(a, b dir.File) bool {
	return a.Name == b.Name && a.Size == b.Size && slices.Equal(a.Spans, b.Spans)
}

func lists(t *testing.T, v teller, want ...dir.File) {
	t.Helper()
	if l := v.Files(); !slices.EqualFunc(l, want, same) {
		t.Errorf("%v, not %v", l, want)
	}
}

func counts(t *testing.T, v *vol.Volume, gen uint64, free int) {
	t.Helper()
	if v.Gen() != gen || v.Free() != free {
		t.Errorf("Gen %d and %d free, not %d and %d", v.Gen(), v.Free(), gen, free)
	}
}

// sectorsOf is all that is read of a device whose power is on.
func sectorsOf(d *dev.Device) []string {
	var all []string
	for at := range d.Sectors() {
		s, _ := d.Read(at)
		all = append(all, s)
	}
	return all
}

// has holds a device's sectors, from one on, against a text.
func has(t *testing.T, d *dev.Device, at int, s string) {
	t.Helper()
	s = padded(s)
	for i := 0; i < len(s); i += sector {
		if got, e := d.Read(at + i/sector); got != s[i:i+sector] || e != api.OK {
			t.Errorf("sector %d: %q %d, not %q", at+i/sector, got, e, s[i:i+sector])
		}
	}
}

// alike holds two devices against each other: all that is read, and all that would be, whichever writes are kept.
func alike(t *testing.T, a, b *dev.Device) {
	t.Helper()
	if a.Pending() != b.Pending() || a.Down() != b.Down() || !slices.Equal(sectorsOf(a), sectorsOf(b)) {
		t.Fatalf("pending %d and %d, down %v and %v, or other sectors", a.Pending(), b.Pending(), a.Down(), b.Down())
	}
	for kept := range a.Pending() + 1 {
		keep := make([]int, a.Pending())
		if kept > 0 {
			keep[kept-1] = 1 // the last but that one are not kept: each write is seen alone
		}
		c, f := a.Clone(), b.Clone()
		c.Power(keep)
		f.Power(keep)
		if !slices.Equal(sectorsOf(c), sectorsOf(f)) {
			t.Fatalf("other sectors, if of the pending writes number %d is kept", kept)
		}
	}
}

// stored is a file by the chapter's words: its size, and its sectors, one by one.
type stored struct {
	size int
	at   []int
}

// model is a volume by the chapter's words, on a device of its own.
type model struct {
	d     *dev.Device
	gen   uint64
	slot  int
	own   []int
	files map[string]stored
	open  *modelTx
	known map[string]*model // what each head says that was ever to be written
}

type modelTx struct {
	m     *model
	free  []int
	files map[string]stored
}

func copied(files map[string]stored) map[string]stored {
	all := map[string]stored{}
	for name, f := range files {
		all[name] = f
	}
	return all
}

func listed(files map[string]stored) []dir.File {
	var l []dir.File
	for name, f := range files {
		l = append(l, dir.File{Name: name, Size: f.size, Spans: runs(f.at)})
	}
	slices.SortFunc(l, func(a, b dir.File) int { return strings.Compare(a.Name, b.Name) })
	return l
}

// lay writes a text to sectors.
func (m *model) lay(at []int, s string) api.Errno {
	s = padded(s)
	for i, n := range at {
		if e := m.d.Write(n, s[i*sector:(i+1)*sector]); e != api.OK {
			return e
		}
	}
	return api.OK
}

// head is the bytes that say what m is, and are known from here on.
func (m *model) head() string {
	s := headOf(m.gen, m.d.Sectors(), len(directoryOf(listed(m.files))), runs(m.own))
	now := *m
	m.known[s] = &now
	return s
}

func modelFormat(d *dev.Device) (*model, api.Errno) {
	m := &model{d: d, gen: 1, own: []int{2}, files: map[string]stored{}, known: map[string]*model{}}
	if d.Sectors() < 4 {
		return nil, api.ErrSpace
	}
	for _, act := range []func() api.Errno{
		func() api.Errno { return d.Write(2, padded(directoryOf(nil))) },
		d.Flush,
		func() api.Errno { return d.Write(0, m.head()) },
		func() api.Errno { return d.Write(1, noughts) },
		d.Flush,
	} {
		if e := act(); e != api.OK {
			return nil, e
		}
	}
	return m, api.OK
}

// mounted is the known volume that the slots say.
func (m *model) mounted() *model {
	var best *model
	for slot := range 2 {
		s, _ := m.d.Read(slot)
		if now := m.known[s]; now != nil && (best == nil || now.gen > best.gen) {
			best = &model{d: m.d, gen: now.gen, slot: slot, own: now.own, files: now.files, known: m.known}
		}
	}
	return best
}

func (m *model) free() []int {
	used := map[int]bool{0: true, 1: true}
	for _, at := range m.own {
		used[at] = true
	}
	for _, f := range m.files {
		for _, at := range f.at {
			used[at] = true
		}
	}
	var l []int
	for at := range m.d.Sectors() {
		if !used[at] {
			l = append(l, at)
		}
	}
	return l
}

func (m *model) begin() *modelTx {
	m.open = &modelTx{m: m, free: m.free(), files: copied(m.files)}
	return m.open
}

// named tells whether a text of ASCII is a name.
func named(s string) bool {
	return len(s) >= 1 && len(s) <= 24 && strings.TrimSpace(s) == s
}

func (x *modelTx) over() bool { return x.m.open != x }

func (x *modelTx) write(name, s string) api.Errno {
	need := (len(s) + sector - 1) / sector
	switch {
	case x.over():
		return api.ErrState
	case !named(name):
		return api.ErrArg
	case len(s) > mostBytes:
		return api.ErrLong
	case need > len(x.free) || len(runs(x.free[:need])) > mostSpans:
		return api.ErrSpace
	}
	at := x.free[:need]
	x.free = x.free[need:]
	if e := x.m.lay(at, s); e != api.OK {
		return e
	}
	x.files[name] = stored{len(s), at}
	return api.OK
}

func (x *modelTx) remove(name string) api.Errno {
	if x.over() {
		return api.ErrState
	}
	if _, ok := x.files[name]; !ok {
		return api.ErrNone
	}
	delete(x.files, name)
	return api.OK
}

func (x *modelTx) rename(from, to string) api.Errno {
	f, ok := x.files[from]
	switch {
	case x.over():
		return api.ErrState
	case !ok:
		return api.ErrNone
	case !named(to):
		return api.ErrArg
	}
	delete(x.files, from)
	x.files[to] = f
	return api.OK
}

func (x *modelTx) commit() api.Errno {
	m := x.m
	if x.over() {
		return api.ErrState
	}
	m.open = nil
	if len(x.files) > mostFiles {
		return api.ErrLong
	}
	text := directoryOf(listed(x.files))
	next := &model{d: m.d, gen: m.gen + 1, slot: 1 - m.slot, files: copied(x.files), known: m.known}
	need := (len(text) + sector - 1) / sector
	for _, s := range runs(x.free) {
		if s.Many >= need && next.own == nil {
			next.own = ats(row(s.At, need))
		}
	}
	if next.own == nil {
		return api.ErrSpace
	}
	for _, act := range []func() api.Errno{
		func() api.Errno { return m.lay(next.own, text) },
		m.d.Flush,
		func() api.Errno { return m.d.Write(next.slot, next.head()) },
		m.d.Flush,
	} {
		if e := act(); e != api.OK {
			return e
		}
	}
	*m = *next
	return api.OK
}

func TestExamples(t *testing.T) {
	d, v := made(t, 20)
	put(t, v, "a", "x")
	x := v.Begin()
	ok(t, x.Write("a", "y"))
	d.Power(nil)
	reads(t, mount(t, d), "a", "x")
}

func TestV1Format(t *testing.T) {
	for _, sectors := range []int{4, 5, 9, 100, most - 1, most} {
		d := inked(t, sectors)
		v := format(t, d)
		counts(t, v, 1, sectors-3)
		lists(t, v)
		if d.Pending() != 0 || d.Down() {
			t.Error(d.Pending(), d.Down())
		}
		has(t, d, 0, headOf(1, sectors, 5, row(2, 1)))
		has(t, d, 1, noughts)
		has(t, d, 2, "\x00\x8d\xef\x02\xd2") // no files, and the sum of that
		for at := 3; at < sectors; at++ {
			has(t, d, at, inkOf(at))
		}
		counts(t, mount(t, d), 1, sectors-3)
	}
}

func TestV1FormatOfFewSectors(t *testing.T) {
	for sectors := 1; sectors < 4; sectors++ {
		d := inked(t, sectors)
		before := sectorsOf(d)
		if v, e := vol.Format(d); v != nil || e != api.ErrSpace {
			t.Error(sectors, e)
		}
		if d.Pending() != 0 || !slices.Equal(sectorsOf(d), before) {
			t.Error("written", sectors)
		}
		// That there is no space is told first.
		if v, e := vol.Format(dark(t, sectors)); v != nil || e != api.ErrSpace {
			t.Error(sectors, e)
		}
	}
}

func TestV1FormatWithoutPower(t *testing.T) {
	for _, sectors := range []int{4, 5, most} {
		d := dark(t, sectors)
		if v, e := vol.Format(d); v != nil || e != api.ErrDown {
			t.Error(sectors, e)
		}
		d.Power(nil)
		for at := range min(sectors, 5) {
			has(t, d, at, noughts)
		}
	}
}

func TestV1FormatArmed(t *testing.T) {
	// What is written and flushed, one behind the other: sector 2, a flush, the sectors 0 and 1, a flush.
	pending := []int{0, 1, 0, 1, 2, 0, 0}
	written := [][]int{{}, {2}, {2}, {2, 0}, {2, 0, 1}, {2, 0, 1}, {2, 0, 1}}
	fresh := map[int]string{0: headOf(1, 9, 5, row(2, 1)), 1: noughts, 2: padded(directoryOf(nil))}
	for n := range pending {
		d := inked(t, 9)
		d.Arm(n)
		v, e := vol.Format(d)
		want := api.ErrDown
		if n >= 5 {
			want = api.OK
		}
		if e != want || (v != nil) != (e == api.OK) {
			t.Error(n, e)
		}
		if d.Pending() != pending[n] || d.Down() != (n < 5) {
			t.Error(n, d.Pending(), d.Down())
		}
		d.Power([]int{1, 1})
		for at := range 9 {
			if slices.Contains(written[n], at) {
				has(t, d, at, fresh[at])
			} else {
				has(t, d, at, inkOf(at))
			}
		}
	}
}

func TestV1FormatAgain(t *testing.T) {
	d, v := made(t, 12)
	put(t, v, "a", "one")
	put(t, v, "b", "two")
	v = format(t, d)
	counts(t, v, 1, 9)
	lists(t, v)
	v = mount(t, d)
	counts(t, v, 1, 9)
	lists(t, v)
	// The slot of a new volume is 0: the next head stands in 1.
	put(t, v)
	has(t, d, 0, headOf(1, 12, 5, row(2, 1)))
	has(t, d, 1, headOf(2, 12, 5, row(3, 1)))
}

// refused tells that Mount of a device errs, and writes nothing.
func refused(t *testing.T, d *dev.Device, want api.Errno) {
	t.Helper()
	pending, before := d.Pending(), sectorsOf(d)
	if v, e := vol.Mount(d); v != nil || e != want {
		t.Errorf("%v %d, not %d", v, e, want)
	}
	if d.Pending() != pending || !slices.Equal(sectorsOf(d), before) {
		t.Error("written")
	}
}

func TestV2MountOfNoVolume(t *testing.T) {
	for _, sectors := range []int{2, 3, 4, 5, 100, most} {
		refused(t, device(t, sectors), api.ErrForm)
		refused(t, inked(t, sectors), api.ErrForm)
		refused(t, dark(t, sectors), api.ErrDown)
	}
	refused(t, device(t, 1), api.ErrRange)
	refused(t, inked(t, 1), api.ErrRange)
	refused(t, dark(t, 1), api.ErrDown)
	d, _ := made(t, 9)
	d.Arm(0)
	d.Flush()
	refused(t, d, api.ErrDown)
}

func TestV2MountOfOneHead(t *testing.T) {
	l := []dir.File{of("a", 65, 5, 1, 8, 1), of("b", 0), of("c", 64, 3, 1)}
	text := inkOf(5) + inkOf(8)[:1]
	for slot := range 2 {
		// The other slot has noughts, no head at all, or a head of which a bit is another one.
		whole := headOf(99, 12, len(directoryOf(l)), row(6, 1))
		for _, other := range []string{noughts, inkOf(0), whole[:9] + "\x01" + whole[10:], whole[:63] + string(whole[63]^1)} {
			d := crafted(t, 12, slot, 7, row(6, 1), l)
			lay(t, d, row(1-slot, 1), other)
			v := mount(t, d)
			counts(t, v, 7, 12-2-1-3)
			lists(t, v, l...)
			reads(t, v, "a", text)
			reads(t, v, "b", "")
			reads(t, v, "c", inkOf(3))
			// The next head stands in the other slot, and this one stays.
			put(t, v, "d", "new")
			has(t, d, slot, headOf(7, 12, len(directoryOf(l)), row(6, 1)))
			now := append(slices.Clone(l), of("d", 3, 2, 1))
			has(t, d, 1-slot, headOf(8, 12, len(directoryOf(now)), row(4, 1)))
			lists(t, mount(t, d), now...)
		}
	}
}

func TestV2MountOfTwoHeads(t *testing.T) {
	elder, newer := []dir.File{of("a", 1, 4, 1)}, []dir.File{of("b", 1, 5, 1)}
	for slot := range 2 {
		for _, gens := range [][2]uint64{{1, 2}, {7, 8}, {255, 256}, {0, 1}, {1, 1 << 63}, {math.MaxUint64 - 1, math.MaxUint64}} {
			d := crafted(t, 9, 1-slot, gens[0], row(2, 1), elder)
			add(t, d, slot, gens[1], row(3, 1), newer)
			v := mount(t, d)
			counts(t, v, gens[1], 5)
			lists(t, v, newer...)
			put(t, v)
			has(t, d, slot, headOf(gens[1], 9, len(directoryOf(newer)), row(3, 1)))
			has(t, d, 1-slot, headOf(gens[1]+1, 9, len(directoryOf(newer)), row(2, 1)))
		}
	}
	// Of one Gen: that of slot 0.
	d := crafted(t, 9, 0, 7, row(2, 1), elder)
	add(t, d, 1, 7, row(3, 1), newer)
	v := mount(t, d)
	lists(t, v, elder...)
	put(t, v)
	has(t, d, 1, headOf(8, 9, len(directoryOf(elder)), row(3, 1)))
}

func TestV2MountDoesNotFallBack(t *testing.T) {
	// The head that is chosen counts, even if what it tells of is wrong, and the other one's is not.
	for slot := range 2 {
		d := crafted(t, 9, 1-slot, 7, row(2, 1), []dir.File{of("a", 1, 4, 1)})
		mount(t, d)
		add(t, d, slot, 8, row(3, 1), []dir.File{of("b", 1, 3, 1)})
		refused(t, d, api.ErrForm)
		lay(t, d, row(slot, 1), headOf(8, 10, 5, row(3, 1)))
		lay(t, d, row(3, 1), directoryOf(nil))
		refused(t, d, api.ErrForm)
		lay(t, d, row(slot, 1), headOf(8, 9, 5, row(3, 1)))
		lists(t, mount(t, d))
	}
}

func TestV2MountOfOtherSectors(t *testing.T) {
	for _, sectors := range []int{2, 3, 8, 10, 11, most - 1, most} {
		d := device(t, 9)
		lay(t, d, row(2, 1), directoryOf(nil))
		own := row(2, 1)
		if sectors == 2 {
			own = nil
		}
		lay(t, d, row(0, 1), headOf(1, sectors, 5*len(own), own))
		refused(t, d, api.ErrForm)
		lay(t, d, row(0, 1), headOf(1, 9, 5, row(2, 1)))
		mount(t, d)
	}
	// A whole volume on a device that has a sector more, or one less.
	small, _ := made(t, 20)
	for _, sectors := range []int{19, 21} {
		d := device(t, sectors)
		for at := range 19 {
			s, _ := small.Read(at)
			lay(t, d, row(at, 1), s)
		}
		refused(t, d, api.ErrForm)
	}
}

func TestV2MountOfNoDirectory(t *testing.T) {
	l := []dir.File{of("a", 1, 4, 1), of("b", 1, 5, 1)}
	text := directoryOf(l)
	whole := func() *dev.Device { return crafted(t, 9, 0, 7, row(2, 1), l) }
	mount(t, whole())
	for _, other := range []string{
		noughts, inkOf(2), text[:len(text)-1] + "x", "\x01" + text[1:], text[1:], directoryOf(nil),
		directoryOf([]dir.File{l[1], l[0]}), directoryOf([]dir.File{l[0], l[0]}), directoryOf([]dir.File{of("a", 2, 4, 1), of("b", 65, 5, 1)}),
	} {
		d := whole()
		lay(t, d, row(2, 1), other)
		lay(t, d, row(0, 1), headOf(7, 9, len(text), row(2, 1)))
		refused(t, d, api.ErrForm)
	}
	// A Size that is not the directory's: the first so many bytes are not one.
	for size := range sector + 1 {
		d := whole()
		own := row(2, 1)
		if size == 0 {
			own = nil
		}
		lay(t, d, row(0, 1), headOf(7, 9, size, own))
		if size == len(text) {
			lists(t, mount(t, d), l...)
		} else {
			refused(t, d, api.ErrForm)
		}
	}
	// Other spans: the bytes in them are other ones.
	d := whole()
	lay(t, d, row(0, 1), headOf(7, 9, len(text), row(3, 1)))
	refused(t, d, api.ErrForm)
	// What is behind the first Size bytes is not looked at.
	d = whole()
	lay(t, d, row(2, 1), text+repeat(sector-len(text)))
	lists(t, mount(t, d), l...)
}

func TestV2MountOfASectorTwice(t *testing.T) {
	for _, c := range []struct {
		l    []dir.File
		want api.Errno
	}{
		{[]dir.File{of("a", 1, 4, 1), of("b", 1, 5, 1)}, api.OK},
		{[]dir.File{of("a", 1, 4, 1), of("b", 1, 4, 1)}, api.ErrForm}, // another file's
		{[]dir.File{of("a", 65, 4, 2), of("b", 65, 5, 2)}, api.ErrForm},
		{[]dir.File{of("a", 65, 4, 2), of("b", 1, 5, 1)}, api.ErrForm},
		{[]dir.File{of("a", 65, 4, 2), of("b", 1, 6, 1)}, api.OK},
		{[]dir.File{of("a", 1, 2, 1)}, api.ErrForm}, // the directory's
		{[]dir.File{of("a", 1, 3, 1)}, api.OK},
		{[]dir.File{of("a", 1, 7, 1)}, api.ErrForm},
		{[]dir.File{of("a", 65, 6, 2)}, api.ErrForm},
		{[]dir.File{of("a", 1, 0, 1)}, api.ErrForm}, // the slots
		{[]dir.File{of("a", 1, 1, 1)}, api.ErrForm},
		{[]dir.File{of("a", 65, 0, 2)}, api.ErrForm},
		{[]dir.File{of("a", 1, 8, 1)}, api.OK},
		{[]dir.File{of("a", 1, 9, 1)}, api.ErrForm}, // none of the device's
		{[]dir.File{of("a", 65, 8, 2)}, api.ErrForm},
		{[]dir.File{of("a", 1, most-1, 1)}, api.ErrForm},
	} {
		d := inked(t, 9)
		// The directory is in 2 and 7: two files of no bytes make it as long.
		l := append(slices.Clone(c.l), of(strings.Repeat("y", 24), 0), of(strings.Repeat("z", 24), 0))
		add(t, d, 1, 7, row(2, 1, 7, 1), l)
		if c.want != api.OK {
			refused(t, d, c.want)
		} else {
			lists(t, mount(t, d), l...)
		}
	}
}

func TestV2MountOfManySpans(t *testing.T) {
	// 8 spans of a directory, and 200 of a file.
	var l []dir.File
	for i := range mostFiles - 1 {
		l = append(l, of(fmt.Sprintf("%024d", i), 0))
	}
	l = append(l, dir.File{Name: "x", Size: 199*sector + 1, Spans: singles(3, 200)})
	own := append(singles(2, 7), api.Span{At: 500, Many: (len(directoryOf(l))+sector-1)/sector - 7})
	d := crafted(t, 1000, 1, 3, own, l)
	v := mount(t, d)
	counts(t, v, 3, 1000-2-200-len(ats(own)))
	lists(t, v, l...)
	text := ""
	for _, at := range ats(singles(3, 200)) {
		text += inkOf(at)
	}
	reads(t, v, "x", text[:199*sector+1])
	// The last sector alone is short.
	if s, _ := v.Read("x"); len(s) != 199*sector+1 {
		t.Error(len(s))
	}
}

func TestV2MountOfAFullVolume(t *testing.T) {
	d := crafted(t, 5, 0, 7, row(3, 1), []dir.File{of("a", 64, 2, 1), of("b", 1, 4, 1)})
	v := mount(t, d)
	counts(t, v, 7, 0)
	x := v.Begin()
	is(t, x.Write("c", "c"), api.ErrSpace)
	ok(t, x.Write("c", ""))
	ok(t, x.Remove("a"))
	is(t, x.Commit(), api.ErrSpace)
	counts(t, v, 7, 0)
	reads(t, v, "a", inkOf(2))

	// Three sectors are none to format, but to mount.
	d = device(t, 3)
	add(t, d, 1, 7, row(2, 1), empties(1))
	v = mount(t, d)
	counts(t, v, 7, 0)
	lists(t, v, empties(1)...)
	is(t, v.Begin().Commit(), api.ErrSpace)
}

func TestV2TwoVolumesOfOneDevice(t *testing.T) {
	// Each one is as it was mounted, whatever the other one does behind.
	d, v := made(t, 30)
	put(t, v, "a", "one")
	w := mount(t, d)
	put(t, v, "b", "two")
	lists(t, w, of("a", 3, 3, 1))
	counts(t, w, 2, 26)
	counts(t, v, 3, 25)
	x, y := v.Begin(), w.Begin()
	ok(t, x.Write("c", ""))
	ok(t, y.Write("c", ""))
}

func TestV3NewVolume(t *testing.T) {
	_, v := made(t, 9)
	counts(t, v, 1, 6)
	lists(t, v)
	if l := v.Files(); len(l) != 0 {
		t.Error(l)
	}
	for _, name := range []string{"", "a", " ", "\xff", strings.Repeat("x", 300)} {
		if s, e := v.Read(name); s != "" || e != api.ErrNone {
			t.Errorf("%q: %q %d", name, s, e)
		}
	}
}

func TestV3FreeBehindEachAct(t *testing.T) {
	_, v := made(t, 20)
	counts(t, v, 1, 17)
	put(t, v, "a", repeat(64))
	counts(t, v, 2, 16)
	put(t, v, "b", repeat(65))
	counts(t, v, 3, 14)
	put(t, v, "b", repeat(1))
	counts(t, v, 4, 15)
	put(t, v, "cc", "")
	counts(t, v, 5, 15)
	put(t, v, strings.Repeat("d", 24), "") // the directory has 65 bytes now
	counts(t, v, 6, 14)

	// What a Tx does is not the volume's, until it is committed.
	x := v.Begin()
	ok(t, x.Write("e", repeat(130)))
	ok(t, x.Remove("a"))
	ok(t, x.Remove(strings.Repeat("d", 24)))
	ok(t, x.Rename("b", "f"))
	counts(t, v, 6, 14)
	ok(t, x.Commit())
	counts(t, v, 7, 20-2-1-1-3)
	x = v.Begin()
	for _, f := range x.Files() {
		ok(t, x.Remove(f.Name))
	}
	ok(t, x.Commit())
	counts(t, v, 8, 17)
}

func TestV3FreeLiesBetween(t *testing.T) {
	// What is free is what a Tx takes, the lowest first: neither the slots, nor a directory's, nor a file's.
	d := crafted(t, 14, 0, 1, row(3, 1), []dir.File{of("a", 65, 2, 1, 8, 1), of("b", 128, 5, 2)})
	v := mount(t, d)
	counts(t, v, 1, 14-2-1-4)
	x := v.Begin()
	for _, at := range []int{4, 7, 9, 10, 11, 12, 13} {
		ok(t, x.Write("x", inkOf(at+100)))
		has(t, d, at, inkOf(at+100))
	}
	is(t, x.Write("x", "x"), api.ErrSpace)
	has(t, d, 8, inkOf(8))
}

func TestV3Read(t *testing.T) {
	d, v := made(t, 700)
	for i, size := range []int{0, 1, 2, 63, 64, 65, 127, 128, 129, 640, 19999, 20000} {
		s := long('A', size)
		put(t, v, "a", s)
		reads(t, v, "a", s)
		reads(t, mount(t, d), "a", s)
		if v.Gen() != uint64(i+2) {
			t.Error(v.Gen())
		}
		for _, name := range []string{"b", "A", "aa", "", "a "} {
			if s, e := v.Read(name); s != "" || e != api.ErrNone {
				t.Errorf("%q: %q %d", name, s, e)
			}
		}
	}
	// Any bytes: noughts at the end among them.
	for _, s := range []string{"\x00", "a\x00", "\x00a\x00\x00", "\xff\xfe", strings.Repeat("\x00", 64), strings.Repeat("\x00", 70), "é\n\r"} {
		put(t, v, "a", s)
		reads(t, mount(t, d), "a", s)
	}
}

func TestV3ReadWithoutPower(t *testing.T) {
	d, v := made(t, 20)
	put(t, v, "a", "one", "b", long('b', 200), "c", "")
	x := v.Begin()
	ok(t, x.Write("d", "two"))
	d.Arm(0)
	d.Flush()
	for _, who := range []teller{v, x} {
		for name, want := range map[string]api.Errno{"a": api.ErrDown, "b": api.ErrDown, "c": api.OK, "e": api.ErrNone, "": api.ErrNone} {
			if s, e := who.Read(name); s != "" || e != want {
				t.Errorf("%q: %q %d", name, s, e)
			}
		}
	}
	// What hangs on no sector is told.
	counts(t, v, 2, 20-2-1-1-4)
	lists(t, v, of("a", 3, 3, 1), of("b", 200, 4, 4), of("c", 0))
	lists(t, x, of("a", 3, 3, 1), of("b", 200, 4, 4), of("c", 0), of("d", 3, 2, 1))
	v.Begin()
}

func TestV3Files(t *testing.T) {
	_, v := made(t, 30)
	put(t, v, "b", "1", "a", "", "é", "2", "B", "3", "a b", "4", "ab", "5", "~", "6")
	var names []string
	for _, f := range v.Files() {
		names = append(names, f.Name)
	}
	if want := []string{"B", "a", "a b", "ab", "b", "~", "é"}; !slices.Equal(names, want) {
		t.Error(names)
	}
}

// overs tells that a Tx is over, whatever is asked of it.
func overs(t *testing.T, x *vol.Tx) {
	t.Helper()
	there := "none"
	if l := x.Files(); len(l) > 0 {
		there = l[0].Name
	}
	before := said(t, x)
	for i, e := range []api.Errno{
		x.Write("a", "late"), x.Write("", ""), x.Write("a", repeat(mostBytes+1)), x.Write("a", repeat(mostBytes)), x.Write(" ", repeat(mostBytes+1)),
		x.Remove(there), x.Remove("nowhere"), x.Remove(""), x.Rename(there, "z"), x.Rename(there, there), x.Rename("nowhere", "z"), x.Rename("nowhere", ""), x.Rename(there, ""),
		x.Commit(),
	} {
		if e != api.ErrState {
			t.Error(i, e)
		}
	}
	if said(t, x) != before {
		t.Error("changed")
	}
}

func TestV4BeginTwice(t *testing.T) {
	d, v := made(t, 30)
	put(t, v, "a", "one")
	first := v.Begin()
	ok(t, first.Write("b", "first"))
	second := v.Begin()
	ok(t, second.Write("c", "second"))
	before := sectorsOf(d)
	overs(t, first)
	third := v.Begin()
	overs(t, first)
	overs(t, second)
	if !slices.Equal(sectorsOf(d), before) {
		t.Error("written")
	}
	lists(t, first, of("a", 3, 3, 1), of("b", 5, 2, 1))
	lists(t, third, of("a", 3, 3, 1))
	ok(t, third.Write("d", "third"))
	ok(t, third.Commit())
	overs(t, first)
	overs(t, second)
	overs(t, third)
	if said(t, v) != "a=one d=third " {
		t.Error(said(t, v))
	}
	// Not those of another volume.
	_, w := made(t, 30)
	x := v.Begin()
	w.Begin()
	ok(t, x.Write("e", ""))
	y := mount(t, d).Begin()
	v.Begin()
	ok(t, y.Write("e", ""))
	overs(t, x)
}

func TestV4BeginTakesNothing(t *testing.T) {
	// A Tx that is given up leaves its sectors free.
	d, v := made(t, 12)
	for range 20 {
		x := v.Begin()
		ok(t, x.Write("a", repeat(8*sector)))
		lists(t, x, of("a", 8*sector, 3, 8))
	}
	counts(t, v, 1, 9)
	lists(t, v)
	lists(t, mount(t, d))
}

func TestV4FilesAndRead(t *testing.T) {
	_, v := made(t, 30)
	put(t, v, "a", "one", "b", "two", "c", "three")
	before := said(t, v)
	x := v.Begin()
	if said(t, x) != before {
		t.Error(said(t, x))
	}
	ok(t, x.Write("a", "new"))
	ok(t, x.Remove("b"))
	ok(t, x.Rename("c", "d"))
	if said(t, x) != "a=new d=three " || said(t, v) != before {
		t.Error(said(t, x), said(t, v))
	}
	for _, name := range []string{"b", "c", "e", ""} {
		if s, e := x.Read(name); s != "" || e != api.ErrNone {
			t.Errorf("%q: %q %d", name, s, e)
		}
	}
	// It tells its own files still when it is over.
	v.Begin()
	if said(t, x) != "a=new d=three " {
		t.Error(said(t, x))
	}
}

func TestV4WriteOfEachSize(t *testing.T) {
	for _, size := range []int{0, 1, 2, 63, 64, 65, 127, 128, 129, 6400, 19968, 19969, 20000} {
		d := inked(t, 400)
		v := format(t, d)
		x := v.Begin()
		s := long('A', size)
		ok(t, x.Write("a", s))
		need := (size + 63) / 64
		if d.Pending() != need {
			t.Error(size, d.Pending())
		}
		has(t, d, 3, s) // and noughts up to the end of the last sector
		has(t, d, 3+need, inkOf(3+need))
		reads(t, x, "a", s)
		if need == 0 {
			lists(t, x, of("a", 0))
		} else {
			lists(t, x, of("a", size, 3, need))
		}
		lists(t, v)
		// The next one is laid behind.
		ok(t, x.Write("b", "b"))
		has(t, d, 3+need, "b")
		is(t, x.Write("c", repeat(mostBytes+1)), api.ErrLong)
		is(t, x.Write("c", repeat(mostBytes*5)), api.ErrLong)
		ok(t, x.Write("c", "c"))
		has(t, d, 4+need, "c")
	}
}

func TestV4WriteNames(t *testing.T) {
	d, v := made(t, 30)
	x := v.Begin()
	for _, name := range []string{"", " ", " a", "a ", "\x1f", "a\nb", "\x7f", "\xff", "a\x80", strings.Repeat("x", 25), strings.Repeat("é", 25), strings.Repeat("x", 1<<16)} {
		is(t, x.Write(name, ""), api.ErrArg)
		is(t, x.Write(name, "text"), api.ErrArg)
		is(t, x.Write(name, repeat(mostBytes)), api.ErrArg)   // no space, either
		is(t, x.Write(name, repeat(mostBytes+1)), api.ErrArg) // too long, either
	}
	lists(t, x)
	if d.Pending() != 0 {
		t.Error("written")
	}
	for _, name := range []string{"a", "a b", strings.Repeat("x", 24), strings.Repeat("é", 24), strings.Repeat("\U0010ffff", 24), "\u0080"} {
		ok(t, x.Write(name, name))
		reads(t, x, name, name)
	}
	ok(t, x.Commit())
	lists(t, mount(t, d), v.Files()...)
}

func TestV4WriteOfASpaceThatJustFits(t *testing.T) {
	for sectors := 4; sectors < 14; sectors++ {
		free := sectors - 3
		d := inked(t, sectors)
		x := format(t, d).Begin()
		is(t, x.Write("a", repeat(free*sector+1)), api.ErrSpace)
		is(t, x.Write("a", repeat((free+1)*sector)), api.ErrSpace)
		is(t, x.Write("a", repeat(mostBytes)), api.ErrSpace)
		is(t, x.Write("a", repeat(mostBytes+1)), api.ErrLong)
		if d.Pending() != 0 {
			t.Error("written", sectors)
		}
		lists(t, x)
		// Nothing was taken.
		ok(t, x.Write("a", long('A', free*sector)))
		reads(t, x, "a", long('A', free*sector))
		is(t, x.Write("a", "b"), api.ErrSpace)
		is(t, x.Write("b", "b"), api.ErrSpace)
		ok(t, x.Write("b", ""))
		reads(t, x, "a", long('A', free*sector))
		// Neither comes back what is removed, nor what is written over.
		ok(t, x.Remove("a"))
		is(t, x.Write("a", "b"), api.ErrSpace)
		ok(t, x.Write("a", ""))
	}
	for _, sectors := range []int{315, 316, 317} { // 312, 313 and 314 are free
		x := format(t, device(t, sectors)).Begin()
		want := api.OK
		if sectors == 315 {
			want = api.ErrSpace
		}
		is(t, x.Write("a", repeat(mostBytes)), want)
	}
}

// scattered is a volume of which the lowest free sectors, so many but one, lie alone; behind them all are free.
func scattered(t *testing.T, many int) (*dev.Device, *vol.Volume) {
	t.Helper()
	l := []dir.File{
		{Name: "a", Size: 100 * sector, Spans: singles(100, 100)},
		{Name: "b", Size: (many - 100) * sector, Spans: singles(300, many-100)},
		{Name: "c", Size: 68 * sector, Spans: row(32, 68)},
	}
	d := crafted(t, 2000, 0, 1, row(2, 30), padTo(l, 30))
	return d, mount(t, d)
}

// padTo is files with some of no bytes, so that their directory needs so many sectors.
func padTo(l []dir.File, need int) []dir.File {
	for i := 0; (len(directoryOf(l))+sector-1)/sector < need; i++ {
		l = append(l, of(fmt.Sprintf("z%023d", i), 0))
	}
	return l
}

func TestV4WriteOfManySpans(t *testing.T) {
	// 199 sectors alone, and what is behind: 200 spans at most.
	d, v := scattered(t, 200)
	x := v.Begin()
	ok(t, x.Write("x", long('A', mostBytes)))
	reads(t, x, "x", long('A', mostBytes))
	f, _ := dir.Find(x.Files(), "x")
	if len(f.Spans) != mostSpans || f.Spans[0] != (api.Span{At: 101, Many: 1}) || f.Spans[199] != (api.Span{At: 499, Many: 114}) {
		t.Error(len(f.Spans), f.Spans)
	}
	ok(t, x.Commit())
	reads(t, mount(t, d), "x", long('A', mostBytes))

	// One more alone.
	d, v = scattered(t, 201)
	x = v.Begin()
	is(t, x.Write("x", repeat(200*sector+1)), api.ErrSpace)
	is(t, x.Write("x", repeat(201*sector)), api.ErrSpace)
	is(t, x.Write("x", repeat(mostBytes)), api.ErrSpace)
	is(t, x.Write("x", repeat(mostBytes+1)), api.ErrLong)
	is(t, x.Write("", repeat(mostBytes)), api.ErrArg)
	if d.Pending() != 0 {
		t.Error("written")
	}
	lists(t, x, v.Files()...)
	// Nothing was taken.
	ok(t, x.Write("x", long('A', 200*sector)))
	f, _ = dir.Find(x.Files(), "x")
	if !slices.Equal(f.Spans, singles(101, 200)) {
		t.Error(f.Spans)
	}
	ok(t, x.Write("y", long('B', mostBytes)))
	f, _ = dir.Find(x.Files(), "y")
	if !slices.Equal(f.Spans, row(501, 313)) {
		t.Error(f.Spans)
	}
	ok(t, x.Commit())
	v = mount(t, d)
	reads(t, v, "x", long('A', 200*sector))
	reads(t, v, "y", long('B', mostBytes))

	// Without power that there is no space is told still: it is seen ahead of any write.
	d, v = scattered(t, 300)
	x = v.Begin()
	d.Arm(0)
	is(t, x.Write("x", repeat(mostBytes)), api.ErrSpace)
	if d.Down() {
		t.Error("written")
	}
	is(t, x.Write("x", repeat(200*sector)), api.ErrDown)
}

func TestV4WriteOfANameThatIsThere(t *testing.T) {
	d, v := made(t, 30)
	put(t, v, "a", "one", "b", "two", "c", "three")
	x := v.Begin()
	ok(t, x.Write("b", long('B', 100)))
	if said(t, x) != "a=one b="+long('B', 100)+" c=three " || said(t, v) != "a=one b=two c=three " {
		t.Error(said(t, x), said(t, v))
	}
	has(t, d, 4, "two") // not written over
	ok(t, x.Write("b", ""))
	ok(t, x.Write("b", "again"))
	lists(t, x, of("a", 3, 3, 1), of("b", 5, 8, 1), of("c", 5, 5, 1))
	ok(t, x.Commit())
	counts(t, v, 3, 30-2-1-3)
	if said(t, mount(t, d)) != "a=one b=again c=three " {
		t.Error(said(t, mount(t, d)))
	}
	// An error leaves what was there.
	x = v.Begin()
	is(t, x.Write("b", repeat(mostBytes)), api.ErrSpace)
	is(t, x.Write("b", repeat(mostBytes+1)), api.ErrLong)
	reads(t, x, "b", "again")
	d.Arm(0)
	is(t, x.Write("b", "more"), api.ErrDown)
	d.Power(nil)
	reads(t, x, "b", "again")
	lists(t, x, v.Files()...)
}

func TestV4WhatIsTakenStaysTaken(t *testing.T) {
	for n := range 3 {
		d := inked(t, 12)
		v := format(t, d)
		x := v.Begin()
		ok(t, x.Write("a", "one"))
		d.Arm(n)
		is(t, x.Write("b", long('B', 3*sector)), api.ErrDown)
		if d.Pending() != 1+n {
			t.Error(n, d.Pending())
		}
		lists(t, x, of("a", 3, 3, 1))
		d.Power([]int{1, 1, 1})
		for i := range 3 {
			if i < n {
				has(t, d, 4+i, long('B', 3*sector)[i*sector:(i+1)*sector]) // in order
			} else {
				has(t, d, 4+i, inkOf(4+i))
			}
		}
		// Behind a power that comes back the Tx goes on, behind what it took.
		ok(t, x.Write("c", "two"))
		lists(t, x, of("a", 3, 3, 1), of("c", 3, 7, 1))
		is(t, x.Write("d", repeat(5*sector)), api.ErrSpace)
		ok(t, x.Write("d", repeat(3*sector)))
		ok(t, x.Commit())
		// Behind the Commit all that no file has is free.
		counts(t, v, 2, 12-2-1-5)
	}
}

func TestV4WithoutPower(t *testing.T) {
	d, v := made(t, 20)
	put(t, v, "a", "one", "b", "two")
	d.Arm(0)
	d.Flush()
	x := v.Begin()
	is(t, x.Write("c", "c"), api.ErrDown)
	is(t, x.Write("", "c"), api.ErrArg)
	is(t, x.Write("c", repeat(mostBytes+1)), api.ErrLong)
	is(t, x.Write("c", repeat(mostBytes)), api.ErrSpace)
	ok(t, x.Write("c", "")) // no sector of it is written
	ok(t, x.Remove("a"))
	ok(t, x.Rename("b", "d"))
	is(t, x.Remove("a"), api.ErrNone)
	lists(t, x, of("c", 0), of("d", 3, 4, 1))
	is(t, x.Commit(), api.ErrDown)
	is(t, x.Commit(), api.ErrState)
	counts(t, v, 2, 20-2-1-2)
	lists(t, v, of("a", 3, 3, 1), of("b", 3, 4, 1))
}

func TestV4Remove(t *testing.T) {
	d, v := made(t, 30)
	put(t, v, "a", "one", "b", "two", "c", "three")
	x := v.Begin()
	for _, name := range []string{"d", "", " ", "A", "aa", "\xff", strings.Repeat("x", 300)} {
		is(t, x.Remove(name), api.ErrNone)
	}
	lists(t, x, v.Files()...)
	ok(t, x.Remove("b"))
	is(t, x.Remove("b"), api.ErrNone)
	lists(t, x, of("a", 3, 3, 1), of("c", 5, 5, 1))
	lists(t, v, of("a", 3, 3, 1), of("b", 3, 4, 1), of("c", 5, 5, 1))
	ok(t, x.Write("d", "four")) // what was removed is not free yet
	lists(t, x, of("a", 3, 3, 1), of("c", 5, 5, 1), of("d", 4, 2, 1))
	ok(t, x.Remove("d"))
	ok(t, x.Commit())
	lists(t, mount(t, d), of("a", 3, 3, 1), of("c", 5, 5, 1))
	x = v.Begin()
	ok(t, x.Write("d", "four"))
	lists(t, x, of("a", 3, 3, 1), of("c", 5, 5, 1), of("d", 4, 2, 1))
	ok(t, x.Write("e", "five"))
	if f, _ := dir.Find(x.Files(), "e"); !slices.Equal(f.Spans, row(4, 1)) {
		t.Error(f) // here it is
	}
	if d.Pending() != 2 {
		t.Error(d.Pending())
	}
}

func TestV4Rename(t *testing.T) {
	d, v := made(t, 30)
	put(t, v, "a", "one", "b", "two", "c", "three")
	a, b, c := of("a", 3, 3, 1), of("b", 3, 4, 1), of("c", 5, 5, 1)
	x := v.Begin()
	for _, from := range []string{"d", "", " ", "A", "\xff"} {
		for _, to := range []string{"e", "a", "", " ", from} {
			is(t, x.Rename(from, to), api.ErrNone) // ahead of what is wrong with the other name
		}
	}
	for _, to := range []string{"", " ", " a", "a ", "\n", "\xff", strings.Repeat("x", 25)} {
		is(t, x.Rename("a", to), api.ErrArg)
	}
	lists(t, x, a, b, c)
	for _, name := range []string{"a", "b", "c"} {
		ok(t, x.Rename(name, name))
	}
	lists(t, x, a, b, c)
	if said(t, x) != said(t, v) {
		t.Error(said(t, x))
	}
	// To a name that was not there, in its own place of the row.
	ok(t, x.Rename("a", "d"))
	lists(t, x, b, c, of("d", 3, 3, 1))
	is(t, x.Rename("a", "e"), api.ErrNone)
	ok(t, x.Rename("d", "B"))
	lists(t, x, of("B", 3, 3, 1), b, c)
	// To one that is: it is gone.
	ok(t, x.Rename("c", "b"))
	lists(t, x, of("B", 3, 3, 1), of("b", 5, 5, 1))
	ok(t, x.Rename("B", "b"))
	lists(t, x, of("b", 3, 3, 1))
	ok(t, x.Rename("b", strings.Repeat("é", 24)))
	lists(t, x, of(strings.Repeat("é", 24), 3, 3, 1))
	reads(t, x, strings.Repeat("é", 24), "one")
	lists(t, v, a, b, c)
	if d.Pending() != 0 {
		t.Error("written")
	}
	ok(t, x.Commit())
	counts(t, v, 3, 30-2-1-1)
	reads(t, mount(t, d), strings.Repeat("é", 24), "one")
}

func TestV5Commit(t *testing.T) {
	d := inked(t, 14)
	v := format(t, d)
	x := v.Begin()
	ok(t, x.Write("a", "one"))
	if d.Pending() != 1 {
		t.Error(d.Pending())
	}
	ok(t, x.Commit())
	if d.Pending() != 0 {
		t.Error(d.Pending())
	}
	l := []dir.File{of("a", 3, 3, 1)}
	lists(t, v, l...)
	counts(t, v, 2, 10)
	has(t, d, 0, headOf(1, 14, 5, row(2, 1)))
	has(t, d, 1, headOf(2, 14, len(directoryOf(l)), row(4, 1)))
	has(t, d, 2, directoryOf(nil))
	has(t, d, 3, "one")
	has(t, d, 4, directoryOf(l))
	for at := 5; at < 14; at++ {
		has(t, d, at, inkOf(at))
	}
	overs(t, x)
}

func TestV5SlotsByTurns(t *testing.T) {
	d, v := made(t, 9)
	size := len(directoryOf(nil))
	own := 2
	for gen := uint64(1); gen < 40; gen++ {
		slot := int(gen+1) % 2
		has(t, d, slot, headOf(gen, 9, size, row(own, 1)))
		if gen > 1 {
			has(t, d, 1-slot, headOf(gen-1, 9, size, row(5-own, 1)))
		}
		counts(t, v, gen, 6)
		if gen%3 == 0 {
			v = mount(t, d)
			counts(t, v, gen, 6)
		}
		put(t, v)
		own = 5 - own // the lowest that is free: 2 and 3 by turns
	}
}

func TestV5GenGoesRound(t *testing.T) {
	d := crafted(t, 9, 0, math.MaxUint64, row(2, 1), empties(1))
	v := mount(t, d)
	put(t, v)
	counts(t, v, 0, 6)
	has(t, d, 1, headOf(0, 9, len(directoryOf(empties(1))), row(3, 1)))
}

func TestV5CommitOfManyFiles(t *testing.T) {
	d, v := made(t, 100)
	x := v.Begin()
	for _, f := range empties(mostFiles) {
		ok(t, x.Write(f.Name, ""))
	}
	ok(t, x.Commit())
	lists(t, v, empties(mostFiles)...)
	lists(t, mount(t, d), empties(mostFiles)...)
	gen, free, before := v.Gen(), v.Free(), sectorsOf(d)

	// One more may be in a Tx, but not be committed.
	x = v.Begin()
	ok(t, x.Write("more", ""))
	lists(t, x, append(empties(mostFiles), of("more", 0))...)
	is(t, x.Commit(), api.ErrLong)
	overs(t, x)
	counts(t, v, gen, free)
	lists(t, v, empties(mostFiles)...)
	if d.Pending() != 0 || !slices.Equal(sectorsOf(d), before) {
		t.Error("written")
	}
	x = v.Begin()
	ok(t, x.Write("more", ""))
	ok(t, x.Remove("007"))
	ok(t, x.Commit())
	if l := v.Files(); len(l) != mostFiles || l[mostFiles-1].Name != "more" {
		t.Error(len(l))
	}
}

func TestV5WhatIsToldFirst(t *testing.T) {
	// The power is away already, or goes with the next write; no space is left, either.
	for _, away := range []bool{false, true} {
		for many, want := range map[int]api.Errno{mostFiles + 1: api.ErrLong, mostFiles: api.ErrSpace, 1: api.ErrSpace} {
			d, v := made(t, 20)
			x := v.Begin()
			for _, f := range empties(many) {
				ok(t, x.Write(f.Name, ""))
			}
			ok(t, x.Write("000", repeat(17*sector)))
			d.Arm(0)
			if away {
				d.Flush()
			}
			is(t, x.Commit(), want)
			is(t, x.Commit(), api.ErrState)
			if d.Down() != away {
				t.Error("written")
			}
			counts(t, v, 1, 17)
			lists(t, v)
			if len(x.Files()) != many {
				t.Error("a Tx that is over tells its own files")
			}
		}
	}
}

func TestV5CommitWithoutASpanThatIsLongEnough(t *testing.T) {
	// Free are 4, 6 and 7, and 9: no more than two beside one another.
	used := []dir.File{of("a", 4*sector, 2, 1, 5, 1, 8, 1, 10, 1)}
	x, y, z := strings.Repeat("x", 24), strings.Repeat("y", 24), strings.Repeat("z", 24)
	for _, c := range []struct {
		names []string
		size  int // of the directory
		own   []api.Span
	}{
		{nil, 5, row(4, 1)},
		{[]string{x, y[1:]}, 64, row(4, 1)},
		{[]string{x, y}, 65, row(6, 2)},
		{[]string{x, y, z, "0", "1", "234", "56789"}, 129, nil},
		{[]string{x, y, z, "0", "1", "234", "5678"}, 128, row(6, 2)},
		{[]string{x, y, z, "w" + z[1:], "w" + y[1:], "w" + x[1:], "w"}, 192, nil},
	} {
		d := crafted(t, 11, 1, 7, row(3, 1), used)
		v := mount(t, d)
		counts(t, v, 7, 4)
		tx := v.Begin()
		ok(t, tx.Remove("a"))
		for _, name := range c.names {
			ok(t, tx.Write(name, ""))
		}
		if size := len(directoryOf(tx.Files())); size != c.size {
			t.Fatal(size, c.size)
		}
		if c.own == nil {
			is(t, tx.Commit(), api.ErrSpace)
			counts(t, v, 7, 4)
			lists(t, v, used...)
			if d.Pending() != 0 {
				t.Error("written")
			}
		} else {
			ok(t, tx.Commit())
			has(t, d, 0, headOf(8, 11, c.size, c.own))
			counts(t, v, 8, 11-2-len(ats(c.own)))
			lists(t, mount(t, d), tx.Files()...)
		}
		overs(t, tx)
	}
}

func TestV5DirectoryGoesToTheFirstSpanThatHasAsMany(t *testing.T) {
	// Free are 3, 5 and 6, 8 to 10, 12 and 13, 15 to 19.
	used := []dir.File{of("a", 4*sector, 4, 1, 7, 1, 11, 1, 14, 1)}
	for need, at := range map[int]int{1: 3, 2: 5, 3: 8, 4: 15, 5: 15} {
		d := crafted(t, 20, 0, 7, row(2, 1), used)
		v := mount(t, d)
		x := v.Begin()
		for i := 0; i < mostFiles && (len(directoryOf(x.Files()))+sector-1)/sector < need; i++ {
			ok(t, x.Write(fmt.Sprintf("z%d", i), ""))
		}
		text := directoryOf(x.Files())
		ok(t, x.Commit())
		has(t, d, 1, headOf(8, 20, len(text), row(at, need)))
		has(t, d, at, text)
		counts(t, v, 8, 20-2-4-need)
		lists(t, mount(t, d), x.Files()...)
		// What a Tx has taken is not free: the directory goes behind it.
		if need <= 2 {
			x = v.Begin()
			before := len(x.Files())
			ok(t, x.Write("y", repeat(2*sector)))
			ok(t, x.Commit())
			if len(v.Files()) != before+1 {
				t.Error(v.Files())
			}
			lists(t, mount(t, d), x.Files()...)
		}
	}
}

func TestV5CommitWithoutASectorLeft(t *testing.T) {
	d, v := made(t, 4)
	x := v.Begin()
	ok(t, x.Write("a", "a"))
	is(t, x.Commit(), api.ErrSpace)
	overs(t, x)
	counts(t, v, 1, 1)
	lists(t, v)
	put(t, v, "a", "", "b", "")
	counts(t, v, 2, 1)
	lists(t, mount(t, d), of("a", 0), of("b", 0))
	x = v.Begin()
	ok(t, x.Remove("a"))
	ok(t, x.Commit())
	counts(t, v, 3, 1)
	has(t, d, 0, headOf(3, 4, len(directoryOf([]dir.File{of("b", 0)})), row(2, 1)))
}

func TestV5CommitOfAllThatFits(t *testing.T) {
	d, v := made(t, 10)
	put(t, v, "a", repeat(6*sector))
	counts(t, v, 2, 1)
	reads(t, mount(t, d), "a", repeat(6*sector))
	x := v.Begin()
	ok(t, x.Remove("a"))
	ok(t, x.Commit())
	counts(t, v, 3, 7)
	put(t, v, "b", long('B', 6*sector))
	counts(t, v, 4, 1)
	reads(t, mount(t, d), "b", long('B', 6*sector))
}

func TestV5CommitTwice(t *testing.T) {
	d, v := made(t, 20)
	x := v.Begin()
	ok(t, x.Write("a", "one"))
	ok(t, x.Commit())
	before := sectorsOf(d)
	overs(t, x)
	overs(t, x)
	counts(t, v, 2, 16)
	if d.Pending() != 0 || !slices.Equal(sectorsOf(d), before) {
		t.Error("written")
	}
	if said(t, x) != "a=one " {
		t.Error(said(t, x))
	}
}

func TestV5CommitArmed(t *testing.T) {
	// Of a Tx: two sectors of a file, one of the directory, a flush, the head, a flush.
	pending := []int{0, 1, 2, 3, 0, 1, 0, 0}
	for n := range pending {
		d, v := made(t, 14)
		x := v.Begin()
		d.Arm(n)
		e := x.Write("a", repeat(65))
		if (e == api.OK) != (n >= 2) {
			t.Error(n, e)
		}
		if e == api.OK {
			e = x.Commit()
			is(t, x.Commit(), api.ErrState)
		}
		want := api.ErrDown
		if n >= 6 {
			want = api.OK
		}
		if e != want || d.Pending() != pending[n] || d.Down() != (n < 6) {
			t.Error(n, e, d.Pending(), d.Down())
		}
		if e != api.OK {
			counts(t, v, 1, 11)
			lists(t, v)
		} else {
			counts(t, v, 2, 9)
		}
		d.Power(nil)
		has(t, d, 0, headOf(1, 14, 5, row(2, 1)))
		if n < 6 {
			has(t, d, 1, noughts)
		}
		// The volume goes on when the power is back, with the slot that is its own.
		gen := v.Gen()
		y := v.Begin()
		ok(t, y.Write("b", "b"))
		ok(t, y.Commit())
		overs(t, x)
		counts(t, v, gen+1, v.Free())
		lists(t, mount(t, d), v.Files()...)
		if h, _ := d.Read(0); (h == headOf(1, 14, 5, row(2, 1))) != (n < 6) {
			t.Error(n, "the head is in the volume's own slot")
		}
	}
}

func TestV5VolumeIsTheTx(t *testing.T) {
	_, v := made(t, 30)
	put(t, v, "a", "one", "b", "two")
	x := v.Begin()
	ok(t, x.Write("c", "three"))
	ok(t, x.Remove("a"))
	ok(t, x.Rename("b", "a"))
	text, l := said(t, x), x.Files()
	ok(t, x.Commit())
	if said(t, v) != text {
		t.Error(said(t, v))
	}
	lists(t, v, l...)
	// The next Tx leaves what this one told.
	y := v.Begin()
	ok(t, y.Remove("a"))
	ok(t, y.Rename("c", "d"))
	lists(t, v, l...)
	lists(t, x, l...)
}

// subsets goes over all rows of so many numbers that are 0 or 1.
func subsets(many int) [][]int {
	var all [][]int
	for bits := range 1 << many {
		keep := make([]int, many)
		for i := range keep {
			keep[i] = bits >> i & 1
		}
		all = append(all, keep)
	}
	return all
}

// work is what is done of one Tx, and Commit; it ends with the first error.
type work func(x *vol.Tx) api.Errno

func works() map[string]work {
	first := func(l ...func() api.Errno) api.Errno {
		for _, act := range l {
			if e := act(); e != api.OK {
				return e
			}
		}
		return api.OK
	}
	write := func(x *vol.Tx, name, s string) func() api.Errno {
		return func() api.Errno { return x.Write(name, s) }
	}
	return map[string]work{
		"nothing":    func(x *vol.Tx) api.Errno { return x.Commit() },
		"one":        func(x *vol.Tx) api.Errno { return first(write(x, "new", "text"), x.Commit) },
		"over":       func(x *vol.Tx) api.Errno { return first(write(x, "a", long('N', 150)), x.Commit) },
		"two":        func(x *vol.Tx) api.Errno { return first(write(x, "a", "N"), write(x, "b", long('M', 65)), x.Commit) },
		"of no byte": func(x *vol.Tx) api.Errno { return first(write(x, "a", ""), write(x, "n", ""), x.Commit) },
		"removed": func(x *vol.Tx) api.Errno {
			return first(func() api.Errno { return x.Remove("a") }, write(x, "c", "C"), func() api.Errno { return x.Remove("b") }, x.Commit)
		},
		"renamed": func(x *vol.Tx) api.Errno {
			return first(func() api.Errno { return x.Rename("a", "b") }, x.Commit)
		},
		"twice": func(x *vol.Tx) api.Errno {
			return first(write(x, "a", "1"), write(x, "a", "2"), write(x, "a", "3"), x.Commit)
		},
		"a long directory": func(x *vol.Tx) api.Errno {
			for i := range 9 {
				if e := x.Write(fmt.Sprintf("%024d", i), ""); e != api.OK {
					return e
				}
			}
			return x.Commit()
		},
		"given up": func(x *vol.Tx) api.Errno { return first(write(x, "a", "lost"), write(x, "d", long('L', 200))) },
	}
}

func TestV6AnyPower(t *testing.T) {
	for name, act := range works() {
		// The volume ahead: its head in slot 0, or in 1; none of it pending, or a Tx that was given up.
		for ahead := range 4 {
			broken(t, name, act, ahead)
		}
	}
}

// prepared is a volume of two files, and what is pending besides.
func prepared(t *testing.T, ahead int) (*dev.Device, *vol.Volume) {
	t.Helper()
	d, v := made(t, 24)
	put(t, v, "a", "old", "b", "stays")
	if ahead%2 == 1 {
		put(t, v, "a", long('O', 70))
	}
	if ahead >= 2 {
		ok(t, v.Begin().Write("a", "gone"))
	}
	return d, v
}

func broken(t *testing.T, name string, act work, ahead int) {
	t.Helper()
	_, v := prepared(t, ahead)
	was := said(t, v)
	x := v.Begin()
	ok(t, act(x))
	now := said(t, v)
	for n := range 30 {
		d, v := prepared(t, ahead)
		d.Arm(n)
		e := act(v.Begin())
		down := d.Down()
		if (e == api.OK) == down || e != api.OK && e != api.ErrDown {
			t.Fatal(name, ahead, n, e)
		}
		for _, keep := range subsets(d.Pending()) {
			c := d.Clone()
			c.Power(keep)
			w := mount(t, c)
			s := said(t, w)
			if s != was && s != now || e == api.OK && s != now {
				t.Fatalf("%s %d %d %v: %q", name, ahead, n, keep, s)
			}
			// It goes on, and is whole.
			put(t, w, "z", "behind")
			c.Power(nil)
			if said(t, mount(t, c)) != s+"z=behind " {
				t.Fatal(name, ahead, n, keep)
			}
		}
		if !down {
			return
		}
	}
	t.Error("no end", name)
}

func TestV6FormatArmed(t *testing.T) {
	// A new device is no volume, or that of no files.
	for n := range 6 {
		d := device(t, 9)
		d.Arm(n)
		_, e := vol.Format(d)
		for _, keep := range subsets(d.Pending()) {
			c := d.Clone()
			c.Power(keep)
			w, f := vol.Mount(c)
			if e == api.OK && f != api.OK || f != api.OK && f != api.ErrForm {
				t.Error(n, keep, f)
			}
			if w != nil {
				counts(t, w, 1, 6)
				lists(t, w)
			}
		}
	}
}

func TestV6PowerBehindPower(t *testing.T) {
	// A row of Tx, each broken somewhere, and mounted again: it is always the last one that was OK, or the one that was broken.
	chance := rand.New(rand.NewSource(8))
	for range 60 {
		d, v := made(t, 40)
		last := said(t, v)
		for range 20 {
			x := v.Begin()
			d.Arm(chance.Intn(14))
			var e api.Errno
			for range chance.Intn(4) {
				if e == api.OK {
					e = x.Write(string(rune('a'+chance.Intn(4))), long(byte('A'+chance.Intn(20)), chance.Intn(200)))
				}
			}
			next := ""
			if !d.Down() {
				next = said(t, x)
			}
			if e == api.OK {
				e = x.Commit()
			}
			if e == api.OK {
				last = next
			}
			keep := make([]int, d.Pending())
			for i := range keep {
				keep[i] = chance.Intn(2)
			}
			d.Power(keep)
			v = mount(t, d)
			if s := said(t, v); s != last && (s != next || e == api.OK) {
				t.Fatalf("%q, neither %q nor %q", s, last, next)
			}
			last = said(t, v)
		}
	}
}

// pair is a volume, and the model of it, each on a device of its own.
type pair struct {
	d  *dev.Device
	v  *vol.Volume
	m  *model
	xs []*vol.Tx
	ys []*modelTx
}

func (p *pair) begin() {
	p.xs = append(p.xs, p.v.Begin())
	p.ys = append(p.ys, p.m.begin())
}

// last is which Tx is asked: the newest one, but now and then an elder one.
func (p *pair) last(chance *rand.Rand) int {
	if chance.Intn(12) == 0 {
		return chance.Intn(len(p.xs))
	}
	return len(p.xs) - 1
}

func (p *pair) check(t *testing.T) {
	t.Helper()
	counts(t, p.v, p.m.gen, len(p.m.free()))
	lists(t, p.v, listed(p.m.files)...)
	for i, x := range p.xs {
		lists(t, x, listed(p.ys[i].files)...)
	}
	alike(t, p.d, p.m.d)
}

// power has it on again, mounts both, and begins anew.
func (p *pair) power(t *testing.T, chance *rand.Rand) {
	t.Helper()
	keep := make([]int, chance.Intn(p.d.Pending()+2))
	for i := range keep {
		keep[i] = chance.Intn(5) - 2
	}
	if p.d.Down() {
		refused(t, p.d, api.ErrDown)
	}
	p.d.Power(keep)
	p.m.d.Power(keep)
	p.v, p.m, p.xs, p.ys = mount(t, p.d), p.m.mounted(), nil, nil
	p.begin()
}

func chanceName(chance *rand.Rand) string {
	return [...]string{"a", "b", "c", "d", "e", "A", "aa", "", " ", strings.Repeat("x", 24), strings.Repeat("y", 24), strings.Repeat("x", 25)}[chance.Intn(12)]
}

func chanceText(chance *rand.Rand, sectors int) string {
	most := [...]int{0, 64, 65, 130, 400, sectors * sector, mostBytes + 1}[chance.Intn(7)]
	if chance.Intn(3) == 0 {
		return long(byte(chance.Intn(256)), min(most, mostBytes+1))
	}
	return long(byte(chance.Intn(256)), chance.Intn(min(most, mostBytes+1)+1))
}

// step is one act of both.
func (p *pair) step(t *testing.T, chance *rand.Rand) {
	t.Helper()
	var e, want api.Errno
	i := p.last(chance)
	x, y := p.xs[i], p.ys[i]
	name, to := chanceName(chance), chanceName(chance)
	switch what := chance.Intn(40); {
	case what < 18:
		s := chanceText(chance, p.d.Sectors())
		e, want = x.Write(name, s), y.write(name, s)
	case what < 22:
		e, want = x.Remove(name), y.remove(name)
	case what < 26:
		e, want = x.Rename(name, to), y.rename(name, to)
	case what < 33:
		e, want = x.Commit(), y.commit()
		p.begin()
	case what < 35:
		p.begin()
	case what < 37:
		n := chance.Intn(12) - 1
		p.d.Arm(n)
		p.m.d.Arm(n)
	case what < 38:
		p.power(t, chance)
	default:
		for name, f := range y.files {
			s := ""
			want = api.OK
			for _, at := range f.at {
				part, e := y.m.d.Read(at)
				s += part
				want = max(want, e)
			}
			if want != api.OK {
				s = strings.Repeat(" ", f.size) // none is told
			}
			got, e := x.Read(name)
			if e != want || e == api.OK && got != s[:f.size] || e != api.OK && got != "" {
				t.Fatalf("%q: %d, not %d, or another text", name, e, want)
			}
		}
		want = api.OK
	}
	is(t, e, want)
	if p.d.Down() && chance.Intn(3) == 0 {
		p.power(t, chance)
	}
}

func TestV1ToV6ByAModel(t *testing.T) {
	chance := rand.New(rand.NewSource(88))
	for _, sectors := range []int{4, 5, 6, 7, 8, 9, 10, 12, 14, 17, 20, 25, 30, 40, 60, 100, 400, 900} {
		rounds := 12
		if sectors > 100 {
			rounds = 2 // each sector is held against the model's behind each act
		}
		for range rounds {
			d := inked(t, sectors)
			e := d.Clone()
			v := format(t, d)
			m, _ := modelFormat(e)
			p := &pair{d: d, v: v, m: m}
			p.begin()
			for range 120 {
				p.step(t, chance)
				p.check(t)
				if len(p.xs) > 5 {
					p.xs, p.ys = p.xs[1:], p.ys[1:]
				}
			}
		}
	}
}

func TestV1ToV6ByAModelOfManyFiles(t *testing.T) {
	// Files of one or two sectors come and go, until what is free is in many spans.
	chance := rand.New(rand.NewSource(888))
	d := device(t, 700)
	p := &pair{d: d, v: format(t, d)}
	p.m, _ = modelFormat(device(t, 700))
	p.begin()
	seen := map[api.Errno]int{}
	for i := range 3000 {
		x, y := p.xs[0], p.ys[0]
		name := fmt.Sprint(chance.Intn(118))
		var e, want api.Errno
		switch what := chance.Intn(20); {
		case what < 11:
			s := long(byte(i), 1+chance.Intn(300))
			e, want = x.Write(name, s), y.write(name, s)
		case what < 15:
			e, want = x.Remove(name), y.remove(name)
		case what < 16:
			s := long(byte(i), mostBytes-chance.Intn(9000))
			e, want = x.Write("long", s), y.write("long", s)
		default:
			e, want = x.Commit(), y.commit()
			p.xs, p.ys = nil, nil
			p.begin()
		}
		is(t, e, want)
		seen[e]++
		counts(t, p.v, p.m.gen, len(p.m.free()))
		lists(t, p.v, listed(p.m.files)...)
		lists(t, p.xs[0], listed(p.ys[0].files)...)
	}
	alike(t, p.d, p.m.d)
	lists(t, mount(t, p.d), listed(p.m.files)...)
	for _, e := range []api.Errno{api.OK, api.ErrSpace, api.ErrNone} {
		if seen[e] < 20 {
			t.Error("too few", e, seen)
		}
	}
}

func TestWhatErrsChangesNothing(t *testing.T) {
	d, v := made(t, 14)
	put(t, v, "a", "one", "b", "two")
	x := v.Begin()
	ok(t, x.Write("c", "three"))
	text, mine, before := said(t, v), said(t, x), sectorsOf(d)
	for i, e := range []api.Errno{
		x.Write("", "x"), x.Write("a", repeat(mostBytes+1)), x.Write("a", repeat(mostBytes)), x.Write("z", repeat(9*sector)),
		x.Remove("z"), x.Rename("z", "a"), x.Rename("a", ""), x.Rename("a", " "),
	} {
		if e == api.OK {
			t.Error(i)
		}
		if said(t, v) != text || said(t, x) != mine || !slices.Equal(sectorsOf(d), before) || d.Pending() != 1 {
			t.Error(i, "changed")
		}
	}
	counts(t, v, 2, 14-2-1-2)
	// All that was free is so still: sector 2, and those behind 5, but for that of c.
	ok(t, x.Write("d", repeat(8*sector)))
	is(t, x.Write("e", "e"), api.ErrSpace)
}

// spoil writes into all places of a row, and behind its lengths.
func spoil(l []dir.File) {
	for i := range l {
		l[i].Name, l[i].Size = "spoilt", -1
		for j := range l[i].Spans {
			l[i].Spans[j] = api.Span{At: -7, Many: -7}
		}
		behind := l[i].Spans[:cap(l[i].Spans)]
		for j := range behind {
			behind[j] = api.Span{At: -8, Many: -8}
		}
		l[i].Spans = nil
	}
	behind := l[:cap(l)]
	for i := range behind {
		behind[i] = dir.File{Name: "spoilt"}
	}
}

func TestAnswersAreNew(t *testing.T) {
	d, v := made(t, 40)
	put(t, v, "a", "one", "b", long('B', 200), "c", "")
	put(t, v, "d", long('D', 130)) // in two spans
	check := func(who teller) {
		t.Helper()
		want, text := who.Files(), said(t, who)
		spoil(who.Files())
		lists(t, who, want...)
		if said(t, who) != text {
			t.Error("spoilt")
		}
		other := who.Files()
		spoil(who.Files())
		if !slices.EqualFunc(other, want, same) {
			t.Error("two answers share")
		}
	}
	free := v.Free()
	check(v)
	check(mount(t, d))
	x := v.Begin()
	check(x)
	ok(t, x.Write("e", "five"))
	check(x)
	ok(t, x.Rename("e", "f"))
	check(x)
	ok(t, x.Remove("b"))
	check(x)
	kept, was := x.Files(), v.Files()
	spoil(v.Files())
	lists(t, x, kept...)
	spoil(x.Files())
	lists(t, v, was...)
	counts(t, v, 3, free)
	ok(t, x.Commit())
	lists(t, v, kept...)
	check(x)
	check(v)
	spoil(x.Files())
	spoil(kept)
	y := v.Begin()
	ok(t, y.Remove("a"))
	ok(t, y.Commit())
	if said(t, mount(t, d)) != "c= d="+long('D', 130)+" f=five " {
		t.Error(said(t, mount(t, d)))
	}
}

func TestNoTwoListsOfAnAnswerShare(t *testing.T) {
	d, v := made(t, 60)
	x := v.Begin()
	for i := range 10 {
		ok(t, x.Write(fmt.Sprint(i), long('A', 64*(i%4))))
	}
	ok(t, x.Commit())
	for _, who := range []teller{v, x, v.Begin(), mount(t, d)} {
		l, want := who.Files(), who.Files()
		for i := range l {
			l[i].Spans = append(l[i].Spans, api.Span{At: -1, Many: -1})
			for j := range l {
				if j > i && !same(l[j], want[j]) {
					t.Error("shared", i, j)
				}
			}
		}
	}
}

func TestAskingChangesNothing(t *testing.T) {
	d, v := made(t, 20)
	put(t, v, "a", "one", "b", long('B', 100))
	x := v.Begin()
	ok(t, x.Write("c", "c"))
	before := d.Clone()
	for range 3 {
		v.Gen()
		v.Files()
		v.Free()
		v.Read("a")
		v.Read("z")
		x.Files()
		x.Read("b")
		x.Read("z")
		vol.Mount(d)
	}
	alike(t, d, before)
	ok(t, x.Commit()) // nothing of that is a Begin
	v.Begin()
	if d.Pending() != 0 {
		t.Error("written")
	}
}

func TestTheSameAgain(t *testing.T) {
	act := func() string {
		d, v := made(t, 50)
		out := ""
		for i := range 12 {
			x := v.Begin()
			for j := range 5 {
				out += fmt.Sprint(x.Write(fmt.Sprint((i*j)%7), long(byte(i), 40*j)), " ")
			}
			out += fmt.Sprint(x.Remove(fmt.Sprint(i%5)), x.Rename("6", "5"), x.Commit(), v.Gen(), v.Free(), v.Files(), " ")
		}
		return out + strings.Join(sectorsOf(d), "")
	}
	want := act()
	for range 5 {
		if act() != want {
			t.Fatal("another answer")
		}
	}
}

func TestAnyTextEnds(t *testing.T) {
	_, v := made(t, 30)
	x := v.Begin()
	texts := []string{"", "a", "\x00", "\xff", "\\", strings.Repeat("x", 24), strings.Repeat("x", 1<<20), "é", "\xed\xa0\x80", strings.Repeat("\x80", 300), repeat(mostBytes)}
	for _, a := range texts {
		for _, b := range texts {
			x.Write(a, b)
			x.Rename(a, b)
			x.Read(a)
			x.Remove(b)
			v.Read(a)
		}
	}
	x.Commit()
	for _, f := range v.Files() {
		if _, e := v.Read(f.Name); e != api.OK {
			t.Error(f, e)
		}
	}
}
