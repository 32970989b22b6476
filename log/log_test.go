package log_test

import (
	"bytes"
	"fmt"
	"hash/crc32"
	"math"
	"math/rand"
	"slices"
	"testing"

	"treering/api"
	"treering/disk"
	"treering/log"
	"treering/space"
	"treering/super"
)

const top = 1<<31 - 1

// fresh is a disk of so many segments, and all of them free.
func fresh(t *testing.T, segs int) (*disk.Disk, *space.Space) {
	t.Helper()
	d, e := disk.New(8 + 8*segs)
	if e != api.OK {
		t.Fatalf("disk of %d segments: %v", segs, e)
	}
	return d, space.New(segs)
}

// text is a record of n bytes, each another than the one ahead and none of them 0.
func text(n int, from byte) []byte {
	b := make([]byte, n)
	for i := range b {
		b[i] = 1 + (from+byte(i%251))%255
	}
	return b
}

// four and two are bytes of a number, the lowest first.
func four(n int) []byte { return []byte{byte(n), byte(n >> 8), byte(n >> 16), byte(n >> 24)} }
func two(n int) []byte  { return []byte{byte(n), byte(n >> 8)} }

// number is what four makes b's first bytes of.
func number(b []byte) int {
	return int(b[0]) | int(b[1])<<8 | int(b[2])<<16 | int(b[3])<<24
}

// sum is the library's, which the project's own is not made of.
func sum(last uint32, b []byte) uint32 {
	return crc32.Update(last, crc32.MakeTable(crc32.Castagnoli), b)
}

// framed is a frame, laid together by hand, and the next last.
func framed(last uint32, boot int, b []byte) ([]byte, uint32) {
	head := slices.Concat(four(len(b)), four(boot))
	next := sum(last, b)
	return slices.Concat(head, four(int(sum(last, head))), b, four(int(next))), next
}

// sector is one, laid together by hand; what it holds is at most 54 bytes.
func sector(boot, place int, part []byte) []byte {
	b := slices.Concat(four(boot), two(place), part, make([]byte, 54-len(part)), four(boot))
	if len(b) != 64 {
		panic("no sector")
	}
	return b
}

// sectors are those of one record at a place, with the next last.
func sectors(last uint32, boot, place int, b []byte) ([][]byte, uint32) {
	f, next := framed(last, boot, b)
	var l [][]byte
	for len(f) > 0 {
		n := min(54, len(f))
		l = append(l, sector(boot, place+len(l), f[:n]))
		f = f[n:]
	}
	return l, next
}

// many is how many sectors a record of n bytes has.
func many(n int) int { return (n + 16 + 53) / 54 }

// at is the number of the sector at a place.
func at(segs []int, place int) int { return 8 + 8*segs[place/8] + place%8 }

// lay writes sectors onto segments, from a place on, past the log.
func lay(t *testing.T, d *disk.Disk, segs []int, place int, l ...[]byte) {
	t.Helper()
	for i, b := range l {
		if e := d.Write(at(segs, place+i), b); e != api.OK {
			t.Fatalf("Write at place %d: %v", place+i, e)
		}
	}
}

// all are the bytes of all sectors of a disk.
func all(t *testing.T, d *disk.Disk) [][]byte {
	t.Helper()
	var l [][]byte
	for i := range d.Sectors() {
		b, e := d.Read(i)
		if e != api.OK {
			t.Fatalf("Read(%d): %v", i, e)
		}
		l = append(l, b)
	}
	return l
}

// sameLists holds two lists of lists of bytes against each other.
func sameLists(a, b [][]byte) bool { return slices.EqualFunc(a, b, bytes.Equal) }

// twin is a disk with the same bytes.
func twin(d *disk.Disk) *disk.Disk { return d.Crash([]byte{1}) }

func add(t *testing.T, l *log.Log, x *space.Space, boot int, b []byte) {
	t.Helper()
	if e := l.Append(x, boot, b); e != api.OK {
		t.Fatalf("Append of boot %d, %d bytes: %v", boot, len(b), e)
	}
}

// loaded asks for a log with just these records.
func loaded(t *testing.T, d *disk.Disk, s super.Log, want ...[]byte) *log.Log {
	t.Helper()
	l, r, e := log.Load(d, s)
	if e != api.OK || l == nil {
		t.Fatalf("Load of %+v: %v, %v", s, l, e)
	}
	if !sameLists(r, want) {
		t.Fatalf("Load of %+v: records %s, want %s", s, told(r), told(want))
	}
	lies(t, l, s)
	return l
}

// refused asks that Load refuses, with nothing beside.
func refused(t *testing.T, what string, d *disk.Disk, s super.Log, want api.Errno) {
	t.Helper()
	l, r, e := log.Load(d, s)
	if e != want || l != nil || len(r) != 0 {
		t.Errorf("%s: Load: %v, %s, %v, want %v", what, l, told(r), e, want)
	}
}

// told is records in few words.
func told(l [][]byte) string {
	s := fmt.Sprint(len(l), ":")
	for _, b := range l {
		s += fmt.Sprintf(" %d bytes %x", len(b), b[:min(len(b), 4)])
	}
	return s
}

// lies asks where a log lies.
func lies(t *testing.T, l *log.Log, want super.Log) {
	t.Helper()
	w := l.Where()
	if !slices.Equal(w.Segs, want.Segs) || w.Len != want.Len || w.Last != want.Last {
		t.Fatalf("Where: %+v, want %+v", w, want)
	}
}

// more asks for just these records behind a log.
func more(t *testing.T, l *log.Log, boot int, want ...[]byte) {
	t.Helper()
	if r := l.More(boot); !sameLists(r, want) {
		t.Fatalf("More(%d): %s, want %s", boot, told(r), told(want))
	}
}

// P8.1: every byte of a sector, as numbers.
func TestSectorByHand(t *testing.T) {
	d, x := fresh(t, 2)
	l := log.New(d)
	add(t, l, x, 0x01020304, []byte("abc"))
	head := []byte{3, 0, 0, 0, 4, 3, 2, 1}
	want := slices.Concat(
		[]byte{4, 3, 2, 1}, []byte{0, 0},
		head, four(int(sum(0, head))), []byte("abc"), four(int(sum(0, []byte("abc")))),
		make([]byte, 35), []byte{4, 3, 2, 1})
	got := all(t, d)
	if !bytes.Equal(got[8], want) {
		t.Errorf("sector %v, want %v", got[8], want)
	}
	for i, b := range got {
		if i != 8 && !bytes.Equal(b, make([]byte, 64)) {
			t.Errorf("sector %d is no longer nought", i)
		}
	}
	add(t, l, x, 0x7F000001, []byte("d"))
	last := sum(0, []byte("abc"))
	head = []byte{1, 0, 0, 0, 1, 0, 0, 0x7F}
	want = slices.Concat(
		[]byte{1, 0, 0, 0x7F}, []byte{1, 0},
		head, four(int(sum(last, head))), []byte("d"), four(int(sum(last, []byte("d")))),
		make([]byte, 37), []byte{1, 0, 0, 0x7F})
	if b, _ := d.Read(9); !bytes.Equal(b, want) {
		t.Errorf("sector %v, want %v", b, want)
	}
}

// P8.1: records of all lengths; a record begins at a sector's beginning, and goes on in the next sector and segment.
func TestSectorsOfRecords(t *testing.T) {
	sizes := []int{1, 2, 37, 38, 39, 40, 91, 92, 93, 100, 54*8 - 17, 54*8 - 16, 54*8 - 15, 1000, 54*16 - 16, 54*16 - 15, api.MaxRecord - 1, api.MaxRecord}
	for _, ahead := range []int{0, 1, 6, 7, 8} {
		for _, n := range sizes {
			d, x := fresh(t, 60)
			for _, seg := range []int{0, 2, 3, 7, 20} { // so that segments do not lie one behind another
				x.Claim(seg)
			}
			l := log.New(d)
			want := all(t, d)
			var last uint32
			place := 0
			for i, size := range append(slices.Repeat([]int{9}, ahead), n, 5) {
				boot := 3 + i
				b := text(size, byte(i))
				add(t, l, x, boot, b)
				segs := l.Where().Segs
				var made [][]byte
				made, last = sectors(last, boot, place, b)
				if len(made) != many(size) {
					t.Fatalf("%d sectors of %d bytes, want %d", len(made), size, many(size))
				}
				for _, s := range made {
					want[at(segs, place)] = s
					place++
				}
			}
			lies(t, l, super.Log{Segs: l.Where().Segs, Len: place, Last: last})
			if !sameLists(all(t, d), want) {
				t.Fatalf("%d records, then one of %d bytes: not the sectors by hand", ahead, n)
			}
		}
	}
}

// P8.1: places above a byte, in a log that has all there is.
func TestPlacesOfTwoBytes(t *testing.T) {
	d, x := fresh(t, api.MaxSegs)
	l := log.New(d)
	var want [][]byte
	for i := range 8 * api.MaxSegs {
		b := text(1+i%38, byte(i))
		add(t, l, x, i, b)
		want = append(want, b)
	}
	for _, p := range []int{0, 1, 255, 256, 257, 511, 512, 767} {
		b, _ := d.Read(8 + p)
		if !bytes.Equal(b[4:6], two(p)) {
			t.Errorf("place %d: bytes %v", p, b[4:6])
		}
	}
	if e := l.Append(x, 800, []byte{1}); e != api.ErrFull {
		t.Errorf("Append to a log that has the whole disk: %v", e)
	}
	loaded(t, d, l.Where(), want...)
}

// P8.1: places are told modulo 2^16. Segments that are listed twice are not refused, so that a log can be that long.
func TestPlacesModulo(t *testing.T) {
	d, x := fresh(t, 1)
	x.Claim(0)
	l := loaded(t, d, super.Log{Segs: make([]int, 1<<13+2)})
	for l.Where().Len < 1<<16-1 {
		add(t, l, x, 1, text(min(api.MaxRecord, 54*(1<<16-1-l.Where().Len)-16), 7))
	}
	w := l.Where()
	if w.Len != 1<<16-1 {
		t.Fatalf("Len %d", w.Len)
	}
	add(t, l, x, 2, text(150, 1))
	made, last := sectors(w.Last, 2, 1<<16-1, text(150, 1))
	if len(made) != 4 {
		t.Fatalf("%d sectors", len(made))
	}
	for i, n := range []int{15, 8, 9, 10} {
		if b, _ := d.Read(n); !bytes.Equal(b, made[i]) {
			t.Errorf("place %d: %v, want %v", 1<<16-1+i, b, made[i])
		}
	}
	if b, _ := d.Read(8); !bytes.Equal(b[4:6], []byte{0, 0}) {
		t.Errorf("place 2^16: %v", b[4:6])
	}
	lies(t, l, super.Log{Segs: w.Segs, Len: w.Len + len(made), Last: last})
}

// P8.1: New has nothing; the chapter's example.
func TestNewAndExample(t *testing.T) {
	d, x := fresh(t, 2)
	l := log.New(d)
	lies(t, l, super.Log{})
	more(t, l, 0)
	loaded(t, d, super.Log{})
	add(t, l, x, 0, []byte{7, 0, 9})
	w := l.Where()
	if w.Len != 1 {
		t.Errorf("Len %d, want 1", w.Len)
	}
	loaded(t, d, w, []byte{7, 0, 9})
	if d.Ops() != 1 {
		t.Errorf("%d Writes and Flushes, want 1: Load, More and Where write nothing", d.Ops())
	}
}

// some is a log with records of several sectors on segments 2, 0, 1 and 3, laid by hand; where each begins, and the last behind each.
type some struct {
	d       *disk.Disk
	segs    []int
	records [][]byte
	boots   []int
	places  []int
	lasts   []uint32
}

func someLog(t *testing.T) some {
	t.Helper()
	d, _ := fresh(t, 5)
	s := some{d: d, segs: []int{2, 0, 1, 3}, boots: []int{4, 4, 5, 300, 300}, places: []int{0}, lasts: []uint32{0}}
	for i, n := range []int{10, 470, 38, 200, 1} {
		b := text(n, byte(40*i))
		made, last := sectors(s.lasts[i], s.boots[i], s.places[i], b)
		lay(t, d, s.segs, s.places[i], made...)
		s.records = append(s.records, b)
		s.places = append(s.places, s.places[i]+len(made))
		s.lasts = append(s.lasts, last)
	}
	return s
}

// upTo is where the first n records lie.
func (s some) upTo(n int) super.Log {
	return super.Log{Segs: s.segs, Len: s.places[n], Last: s.lasts[n]}
}

// P8.1: the records of the first Len sectors, in order; those behind are not among them.
func TestLoad(t *testing.T) {
	s := someLog(t)
	for n := range 6 {
		l := loaded(t, s.d, s.upTo(n), s.records[:n]...)
		if n == 0 {
			continue
		}
		cut := s.upTo(n) // just as many segments as need be
		cut.Segs = cut.Segs[:(cut.Len+7)/8]
		loaded(t, s.d, cut, s.records[:n]...)
		if l.Where().Len != s.places[n] {
			t.Errorf("Len %d", l.Where().Len)
		}
	}
	loaded(t, s.d, super.Log{Segs: []int{4, 3, 2, 1, 0}})
}

// P8.1: boots may fall in what Load is told of; that is More's alone.
func TestLoadFallingBoots(t *testing.T) {
	d, x := fresh(t, 2)
	l := log.New(d)
	for i, boot := range []int{9, 3, top, 0} {
		add(t, l, x, boot, text(5, byte(i)))
	}
	m := loaded(t, d, l.Where(), text(5, 0), text(5, 1), text(5, 2), text(5, 3))
	add(t, l, x, 0, text(6, 6))
	more(t, m, 0, text(6, 6))
}

// P8.1: ErrDead is ahead of all else.
func TestLoadDead(t *testing.T) {
	s := someLog(t)
	s.d.Fuse(0)
	loaded(t, s.d, s.upTo(3), s.records[:3]...) // a fuse alone does not kill
	s.d.Flush()
	for i, w := range []super.Log{s.upTo(3), {}, {Segs: []int{-1}}, {Len: 5}, {Last: 1}} {
		refused(t, fmt.Sprint("dead ", i), s.d, w, api.ErrDead)
	}
	refused(t, "no disk", nil, s.upTo(3), api.ErrArg)
	refused(t, "no disk, nothing", nil, super.Log{}, api.ErrArg)
}

// P8.1: ErrCorrupt: fewer sectors than Len, or segments that are not there.
func TestLoadSegments(t *testing.T) {
	s := someLog(t)
	for _, n := range []int{-1, math.MinInt, 33, 34, 9999, math.MaxInt} {
		refused(t, fmt.Sprint("Len ", n), s.d, super.Log{Segs: s.segs, Len: n, Last: s.lasts[5]}, api.ErrCorrupt)
	}
	refused(t, "no segments", s.d, super.Log{Len: 1, Last: s.lasts[1]}, api.ErrCorrupt)
	for n := 1; n < 6; n++ {
		w := s.upTo(n)
		w.Segs = w.Segs[:(w.Len-1)/8]
		refused(t, fmt.Sprint(len(w.Segs), " segments for ", w.Len), s.d, w, api.ErrCorrupt)
	}
	for _, seg := range []int{-1, 5, 6, 95, 96, 97, 1 << 32, 1<<32 + 1, math.MinInt, math.MaxInt} {
		w := s.upTo(1)
		w.Segs = []int{2, 0, seg} // one that no sector of Len needs
		refused(t, fmt.Sprint("segment ", seg), s.d, w, api.ErrCorrupt)
		refused(t, fmt.Sprint("segment ", seg, " alone"), s.d, super.Log{Segs: []int{seg}}, api.ErrCorrupt)
		w = s.upTo(5)
		w.Segs = slices.Clone(w.Segs)
		w.Segs[1] = seg
		refused(t, fmt.Sprint("segment ", seg, " amid"), s.d, w, api.ErrCorrupt)
	}
	for _, extra := range []int{0, 1, 7} { // a piece of a segment is none
		d, _ := disk.New(16 + extra)
		loaded(t, d, super.Log{Segs: []int{0}})
		refused(t, "a piece", d, super.Log{Segs: []int{0, 1}}, api.ErrCorrupt)
	}
	w := s.upTo(5)
	w.Segs = []int{0, 2, 1, 3}
	refused(t, "segments in another order", s.d, w, api.ErrCorrupt)
	w.Segs = []int{2, 2, 1, 3}
	refused(t, "a segment twice, the one that has to be there not", s.d, w, api.ErrCorrupt)
}

// P8.1: ErrCorrupt: each byte of both boots and of the place, of each sector.
func TestLoadUnsound(t *testing.T) {
	s := someLog(t)
	w := s.upTo(5)
	for p := range w.Len {
		for _, i := range []int{0, 1, 2, 3, 4, 5, 60, 61, 62, 63} {
			for bit := range 8 {
				d := twin(s.d)
				b, _ := d.Read(at(s.segs, p))
				d.Spoil(at(s.segs, p), i, []byte{b[i] ^ 1<<bit})
				refused(t, fmt.Sprintf("place %d, byte %d, bit %d", p, i, bit), d, w, api.ErrCorrupt)
			}
		}
	}
	// whole places and boots that are others'
	for p := range w.Len {
		n := at(s.segs, p)
		b, _ := s.d.Read(n)
		for _, place := range []int{0, p - 1, p + 1, p + 256, 65535} {
			if place == p {
				continue
			}
			d := twin(s.d)
			d.Spoil(n, 4, two(place))
			refused(t, fmt.Sprintf("place %d as %d", p, place), d, w, api.ErrCorrupt)
		}
		for _, boot := range []int{0, number(b) - 1, number(b) + 1, top, 1 << 31, 1<<32 - 1} {
			d := twin(s.d)
			d.Spoil(n, 0, four(boot))
			refused(t, fmt.Sprintf("place %d, first boot %d", p, boot), d, w, api.ErrCorrupt)
			d.Spoil(n, 60, four(boot)) // it is sound then, and of another boot than its record
			refused(t, fmt.Sprintf("place %d, boot %d", p, boot), d, w, api.ErrCorrupt)
			d.Spoil(n, 0, b[:4])
			refused(t, fmt.Sprintf("place %d, second boot %d", p, boot), d, w, api.ErrCorrupt)
			d.Spoil(n, 60, b[60:])
			loaded(t, d, w, s.records...)
		}
	}
}

// P8.1: what lies behind Len is not looked at.
func TestLoadLooksNoFurther(t *testing.T) {
	s := someLog(t)
	for n := range 5 {
		d := twin(s.d)
		for p := s.places[n]; p < 32; p++ {
			d.Spoil(at(s.segs, p), 0, text(64, byte(p)))
		}
		loaded(t, d, s.upTo(n), s.records[:n]...)
		more(t, loaded(t, d, s.upTo(n), s.records[:n]...), 0)
	}
}

// P8.1: ErrCorrupt: each byte of a frame, and each behind it.
func TestLoadTurned(t *testing.T) {
	s := someLog(t)
	w := s.upTo(5)
	for p := range w.Len {
		for i := 6; i < 60; i++ {
			for _, turn := range []byte{1, 128, 255} {
				d := twin(s.d)
				b, _ := d.Read(at(s.segs, p))
				d.Spoil(at(s.segs, p), i, []byte{b[i] ^ turn})
				refused(t, fmt.Sprintf("place %d, byte %d by %d", p, i, turn), d, w, api.ErrCorrupt)
			}
		}
	}
}

// P8.1: ErrCorrupt: records of which one thing alone is wrong.
func TestLoadNoRecord(t *testing.T) {
	one := func(what string, l [][]byte, length int, last uint32, want api.Errno) {
		t.Helper()
		d, _ := fresh(t, 2)
		lay(t, d, []int{1, 0}, 0, l...)
		w := super.Log{Segs: []int{1, 0}, Len: length, Last: last}
		if want != api.OK {
			refused(t, what, d, w, want)
		} else if _, r, e := log.Load(d, w); e != api.OK || len(r) != 1 {
			t.Errorf("%s: %s, %v", what, told(r), e)
		}
	}
	b := text(100, 3)
	good, last := sectors(0, 6, 0, b)
	one("as it must be", good, 3, last, api.OK)
	one("nothing", nil, 1, 0, api.ErrCorrupt)
	one("nothing, and a last", nil, 3, last, api.ErrCorrupt)
	elder, next := sectors(1, 6, 0, b)
	one("a frame behind another last", elder, 3, next, api.ErrCorrupt)
	one("another last", good, 3, last+1, api.ErrCorrupt)
	one("no last", good, 3, 0, api.ErrCorrupt)
	one("it ends behind Len", good, 2, last, api.ErrCorrupt)
	one("it ends behind Len, no last", good, 2, 0, api.ErrCorrupt)
	one("it ends behind Len by far", good, 1, last, api.ErrCorrupt)
	one("it ends ahead of Len", good, 4, last, api.ErrCorrupt)
	one("nought of it", good, 0, last, api.ErrCorrupt)
	// a frame whose boot is none of its sectors'
	f, _ := framed(0, 6, b)
	other := [][]byte{sector(7, 0, f[:54]), sector(7, 1, f[54:108]), sector(7, 2, f[108:])}
	one("its sectors have another boot", other, 3, last, api.ErrCorrupt)
	for i := range 3 {
		mixed := slices.Clone(good)
		mixed[i] = other[i]
		one(fmt.Sprintf("sector %d has another boot", i), mixed, 3, last, api.ErrCorrupt)
	}
	// boots that only frames by hand have
	f, last = framed(0, 1<<31, []byte{1})
	one("a boot above 2^31 - 1", [][]byte{sector(1<<31, 0, f)}, 1, last, api.ErrCorrupt)
	f, last = framed(0, 1<<32-1, []byte{1})
	one("a boot of all bits", [][]byte{sector(1<<32-1, 0, f)}, 1, last, api.ErrCorrupt)
	f, last = framed(0, top, []byte{1})
	one("a boot of 2^31 - 1", [][]byte{sector(top, 0, f)}, 1, last, api.OK)
	f, last = framed(0, 1, nil)
	one("a record without bytes", [][]byte{sector(1, 0, f)}, 1, last, api.ErrCorrupt)
	// noughts behind
	f, last = framed(0, 1, text(20, 1))
	for i := len(f); i < 54; i++ {
		g := append(slices.Clone(f), make([]byte, 54-len(f))...)
		g[i] = 1
		one(fmt.Sprint("behind it no nought at ", i), [][]byte{sector(1, 0, g)}, 1, last, api.ErrCorrupt)
	}
	// a record that does not begin with a sector
	g, next := framed(last, 1, []byte{5})
	one("two in one sector", [][]byte{sector(1, 0, append(slices.Clone(f), g[:18]...))}, 1, next, api.ErrCorrupt)
	one("a sector between", [][]byte{sector(1, 0, nil), sector(1, 1, f)}, 2, last, api.ErrCorrupt)
}

// P8.1: what was appended behind is found, and is the log's own from then on.
func TestMore(t *testing.T) {
	s := someLog(t)
	for n := range 6 {
		for _, boot := range []int{math.MinInt, -1, 0, 4} {
			l := loaded(t, s.d, s.upTo(n), s.records[:n]...)
			more(t, l, boot, s.records[n:]...)
			lies(t, l, s.upTo(5))
			more(t, l, boot)
			lies(t, l, s.upTo(5))
			loaded(t, s.d, l.Where(), s.records...)
		}
	}
}

// P8.1: More appends behind what it found: another log, that knew of all, does just the same.
func TestMoreGoesOn(t *testing.T) {
	s := someLog(t)
	a, b := loaded(t, s.d, s.upTo(1), s.records[:1]...), loaded(t, twin(s.d), s.upTo(5), s.records...)
	more(t, a, 0, s.records[1:]...)
	x, y := space.New(5), space.New(5)
	for _, seg := range s.segs {
		x.Claim(seg)
		y.Claim(seg)
	}
	for i := range 4 {
		add(t, a, x, 300, text(300, byte(i)))
		add(t, b, y, 300, text(300, byte(i)))
		lies(t, a, b.Where())
	}
	if x.Free() != 0 || y.Free() != 0 {
		t.Errorf("free: %d and %d", x.Free(), y.Free())
	}
	loaded(t, s.d, a.Where(), slices.Concat(s.records, [][]byte{text(300, 0), text(300, 1), text(300, 2), text(300, 3)})...)
}

// P8.1: More ends where a record's boot is below boot.
func TestMoreBoot(t *testing.T) {
	s := someLog(t)
	for n := range 6 {
		for _, boot := range []int{3, 4, 5, 6, 299, 300, 301, top, math.MaxInt} {
			end := n
			for end < 5 && s.boots[end] >= boot {
				end++
			}
			l := loaded(t, s.d, s.upTo(n), s.records[:n]...)
			more(t, l, boot, s.records[n:end]...)
			lies(t, l, s.upTo(end))
			more(t, l, 0, s.records[end:]...) // nothing is lost
		}
	}
}

// P8.1: More ends where a record's boot is below that of the one ahead, be that loaded, found or appended.
func TestMoreFallingBoot(t *testing.T) {
	d, x := fresh(t, 4)
	l := log.New(d)
	boots := []int{2, 2, 5, 4, 4, 9, 8, 0}
	where := []super.Log{{}}
	var records [][]byte
	for i, boot := range boots {
		records = append(records, text(30+30*i, byte(i)))
		add(t, l, x, boot, records[i])
		where = append(where, l.Where())
	}
	for n := range 9 {
		w := where[n]
		w.Segs = where[8].Segs
		m := loaded(t, d, w, records[:n]...)
		end := n
		for end < 8 && (end == 0 || boots[end] >= boots[end-1]) {
			end++
		}
		more(t, m, 0, records[n:end]...)
		if m.Where().Len != where[end].Len || m.Where().Last != where[end].Last {
			t.Errorf("from %d on: %+v", n, m.Where())
		}
		more(t, m, 0) // the one ahead is still the one ahead
	}
	// one that was appended is ahead, too: of the record that lies behind it an elder boot is seen
	made, last := sectors(0, 6, 0, text(5, 1))
	d, x = fresh(t, 1)
	lay(t, d, []int{0}, 0, made...)
	for _, boot := range []int{5, 6, 7} {
		e := twin(d)
		behind, _ := sectors(last, 6, 1, text(7, 7))
		lay(t, e, []int{0}, 1, behind...)
		m := log.New(e)
		add(t, m, x.Copy(), boot, text(5, 1))
		if boot <= 6 {
			more(t, m, 0, text(7, 7))
		} else {
			more(t, m, 0)
		}
		m.Give(space.New(1))
		more(t, m, 0)
	}
	// in a log that was given nothing is ahead
	d, x = fresh(t, 1)
	m := log.New(d)
	add(t, m, x, 9, text(3, 3))
	m.Give(x)
	add(t, m, x, 1, text(3, 4))
	w := m.Where()
	loaded(t, d, w, text(3, 4))
	more(t, loaded(t, d, super.Log{Segs: w.Segs}), 0, text(3, 4))
}

// P8.1: More ends at the first place where there is none: whatever is wrong with a record.
func TestMoreUpToNone(t *testing.T) {
	s := someLog(t)
	for p := range s.places[5] {
		n := at(s.segs, p)
		b, _ := s.d.Read(n)
		hit := 0
		for s.places[hit+1] <= p {
			hit++
		}
		spoils := [][2]int{{0, 9}, {3, 1}, {4, 9}, {5, 1}, {6, 200}, {20, 0}, {59, 7}, {60, 9}, {63, 1}}
		for _, sp := range spoils {
			if b[sp[0]] == byte(sp[1]) {
				continue
			}
			d := twin(s.d)
			d.Spoil(n, sp[0], []byte{byte(sp[1])})
			for from := range hit + 1 {
				l := loaded(t, d, s.upTo(from), s.records[:from]...)
				more(t, l, 0, s.records[from:hit]...)
				lies(t, l, s.upTo(hit))
			}
		}
		d := twin(s.d) // sound, and of another boot than the record
		d.Spoil(n, 0, four(77))
		d.Spoil(n, 60, four(77))
		l := loaded(t, d, s.upTo(0))
		more(t, l, 0, s.records[:hit]...)
		// it is the place where it goes on
		add(t, l, space.New(5), 300, text(4, 4))
		made, _ := sectors(s.lasts[hit], 300, s.places[hit], text(4, 4))
		if b, _ := d.Read(at(s.segs, s.places[hit])); !bytes.Equal(b, made[0]) {
			t.Errorf("place %d: Append goes on elsewhere", p)
		}
	}
}

// P8.1: More looks on the log's segments alone.
func TestMoreOnItsSegments(t *testing.T) {
	s := someLog(t)
	for n := range 5 {
		w := super.Log{Segs: s.segs[:n]}
		end := 0
		for end < 5 && s.places[end+1] <= 8*n {
			end++
		}
		l := loaded(t, s.d, w)
		more(t, l, 0, s.records[:end]...)
		lies(t, l, super.Log{Segs: s.segs[:n], Len: s.places[end], Last: s.lasts[end]})
	}
	// up to the very last sector of its segments
	d, x := fresh(t, 2)
	l := log.New(d)
	add(t, l, x, 1, text(54*8-16, 1))
	more(t, loaded(t, d, super.Log{Segs: []int{0}}), 1, text(54*8-16, 1))
	add(t, l, x, 1, text(54*8-16, 2))
	more(t, loaded(t, d, super.Log{Segs: []int{0}}), 1, text(54*8-16, 1))
	more(t, loaded(t, d, super.Log{Segs: []int{0, 1}}), 1, text(54*8-16, 1), text(54*8-16, 2))
}

// P8.1: a disk that died has no more to tell; the log is as it was.
func TestMoreDead(t *testing.T) {
	s := someLog(t)
	l := loaded(t, s.d, s.upTo(2), s.records[:2]...)
	s.d.Fuse(0)
	s.d.Flush()
	more(t, l, 0)
	lies(t, l, s.upTo(2))
}

// seen is the record at a place, looked at by another way than the package's; n 0: there is none ahead of end.
func seen(d *disk.Disk, segs []int, place, end int, last uint32) (b []byte, boot, n int) {
	if place >= end {
		return nil, 0, 0
	}
	first, _ := d.Read(at(segs, place))
	length := number(first[6:])
	if length < 1 || length > api.MaxRecord || place+many(length) > end {
		return nil, 0, 0
	}
	var f []byte
	for i := range many(length) {
		s, _ := d.Read(at(segs, place+i))
		if !bytes.Equal(s[:4], first[:4]) || !bytes.Equal(s[60:], first[:4]) || !bytes.Equal(s[4:6], two(place+i)) {
			return nil, 0, 0
		}
		f = append(f, s[6:60]...)
	}
	boot = number(first)
	want, _ := framed(last, boot, f[12:12+length])
	if boot > top || !bytes.Equal(f[:len(want)], want) || bytes.Count(f[len(want):], []byte{0}) != len(f)-len(want) {
		return nil, 0, 0
	}
	return f[12 : 12+length], boot, many(length)
}

// P8.1: Load and More of disks that are turned by chance, against another way of looking.
func TestAgainstAnotherWay(t *testing.T) {
	r := rand.New(rand.NewSource(84))
	corrupt, fine := 0, 0
	for range 6000 {
		d, x := fresh(t, 4)
		l := log.New(d)
		where := []super.Log{l.Where()}
		boot := 0
		for range r.Intn(8) {
			boot = max(0, boot+r.Intn(5)-1)
			if l.Append(x, boot, text(1+r.Intn(150), byte(r.Intn(256)))) == api.OK {
				where = append(where, l.Where())
			}
		}
		for range r.Intn(3) {
			n := 8 + r.Intn(32)
			switch r.Intn(4) {
			case 0:
				d.Spoil(n, r.Intn(64), []byte{byte(r.Intn(4))})
			case 1:
				b, _ := d.Read(8 + r.Intn(32))
				d.Write(n, b)
			case 2:
				f := four(r.Intn(3))
				d.Spoil(n, 0, f)
				d.Spoil(n, 60, f)
			case 3:
				d.Spoil(n, 6, four(r.Intn(100)))
			}
		}
		segs := l.Where().Segs
		w := where[r.Intn(len(where))]
		w.Segs = segs[:min(len(segs), len(w.Segs)+r.Intn(4))]
		if r.Intn(10) == 0 {
			w.Len = r.Intn(33)
		}
		want := api.OK
		var records [][]byte
		place, last, ahead := 0, uint32(0), 0
		if w.Len > 8*len(w.Segs) {
			want = api.ErrCorrupt
		}
		for want == api.OK && place < w.Len {
			b, boot, n := seen(d, w.Segs, place, w.Len, last)
			if n == 0 {
				want = api.ErrCorrupt
				break
			}
			records = append(records, b)
			place, last, ahead = place+n, sum(last, b), boot
		}
		if last != w.Last {
			want = api.ErrCorrupt
		}
		if want != api.OK {
			corrupt++
			refused(t, "turned", d, w, want)
			continue
		}
		fine++
		m := loaded(t, d, w, records...)
		least := r.Intn(6) - 1
		records = nil
		for {
			b, boot, n := seen(d, w.Segs, place, 8*len(w.Segs), last)
			if n == 0 || boot < least || boot < ahead {
				break
			}
			records = append(records, b)
			place, last, ahead = place+n, sum(last, b), boot
		}
		more(t, m, least, records...)
		lies(t, m, super.Log{Segs: w.Segs, Len: place, Last: last})
	}
	if corrupt < 500 || fine < 500 {
		t.Errorf("%d corrupt, %d fine: too few of one kind", corrupt, fine)
	}
}

// R1, R6: any numbers are taken; no call panics.
func TestAnything(t *testing.T) {
	numbers := []int{math.MinInt, -1 << 32, -1, 0, 1, 7, 8, 95, 96, 1 << 16, top, 1 << 31, math.MaxInt}
	for _, size := range []int{0, 7, 8, 15, 16, 17, api.MaxSectors} {
		d, _ := disk.New(size)
		for _, a := range numbers {
			for _, b := range numbers {
				l, r, e := log.Load(d, super.Log{Segs: []int{a}, Len: b})
				if (e == api.OK) != (l != nil) || len(r) != 0 {
					t.Fatalf("segment %d, Len %d: %v, %s, %v", a, b, l, told(r), e)
				}
				l.More(b)
				x := space.New(a)
				l.Append(x, b, text(600, 1))
				log.New(d).Append(x, b, text(600, 1))
				l.Give(x)
			}
		}
	}
}
