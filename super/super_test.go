package super_test

import (
	"bytes"
	"fmt"
	"math"
	"math/rand"
	"reflect"
	"slices"
	"testing"

	"treering/api"
	"treering/crc"
	"treering/disk"
	"treering/super"
)

const top = 1<<31 - 1

// logOf is a log of these segments.
func logOf(length int, last uint32, segs ...int) super.Log {
	return super.Log{Segs: segs, Len: length, Last: last}
}

// plain is one that may be.
func plain() super.Super {
	return super.Super{Number: 300, Boot: 2, Journal: logOf(13, 0x01020304, 5, 0), Chunks: logOf(7, 0xA1B2C3D4, 3)}
}

// upTo are the numbers from one to below another.
func upTo(from, to int) []int {
	var l []int
	for i := from; i < to; i++ {
		l = append(l, i)
	}
	return l
}

// ends are some that may be, at the ends of what may be.
func ends() []super.Super {
	return []super.Super{
		{},
		plain(),
		{Number: top, Boot: top},
		{Number: 127, Boot: 128},
		{Number: 128, Boot: 127},
		{Number: 1 << 14, Boot: 1<<14 - 1, Journal: logOf(0, math.MaxUint32, 95)},
		{Number: 255, Boot: 256, Journal: logOf(8, 1, 0), Chunks: logOf(8, 0x80000000, 95)},
		{Number: top, Boot: top, Journal: logOf(768, math.MaxUint32, upTo(0, 96)...)},
		{Number: top, Boot: top, Chunks: logOf(768, math.MaxUint32, upTo(0, 96)...)},
		{Number: top, Boot: top, Journal: logOf(384, math.MaxUint32, upTo(48, 96)...), Chunks: logOf(384, math.MaxUint32, upTo(0, 48)...)},
		{Journal: logOf(128, 7, upTo(10, 26)...), Chunks: logOf(127, 0, upTo(30, 46)...)},
	}
}

// chance is one that may be, by chance.
func chance(r *rand.Rand) super.Super {
	l := r.Perm(api.MaxSegs)
	a, b := r.Intn(97), r.Intn(97)
	if a > b {
		a, b = b, a
	}
	s := super.Super{Number: r.Intn(1 << uint(r.Intn(32))), Boot: r.Intn(1 << uint(r.Intn(32)))}
	s.Journal = logOf(r.Intn(8*a+1), r.Uint32(), l[:a:a]...)
	s.Chunks = logOf(r.Intn(8*(b-a)+1), r.Uint32(), l[a:b:b]...)
	return s
}

// alike holds two against each other; no segments are nil or empty.
func alike(a, b super.Super) bool {
	return a.Number == b.Number && a.Boot == b.Boot && alikeLog(a.Journal, b.Journal) && alikeLog(a.Chunks, b.Chunks)
}

func alikeLog(a, b super.Log) bool {
	return a.Len == b.Len && a.Last == b.Last && slices.Equal(a.Segs, b.Segs)
}

// none tells whether s is a zero value.
func none(s super.Super) bool { return alike(s, super.Super{}) }

// num is a number as pen writes it, reckoned here by itself.
func num(n int) []byte {
	var b []byte
	for n > 127 {
		b = append(b, byte(128+n%128))
		n /= 128
	}
	return append(b, byte(n))
}

// four are four bytes of a number, the lowest first.
func four(n uint32) []byte {
	return []byte{byte(n), byte(n >> 8), byte(n >> 16), byte(n >> 24)}
}

// text is what a slot's parts tell, the zero bytes and the sum not among it.
func text(s super.Super) []byte {
	b := []byte("TR")
	b = append(b, num(s.Number)...)
	b = append(b, num(s.Boot)...)
	for _, l := range []super.Log{s.Journal, s.Chunks} {
		b = append(b, num(len(l.Segs))...)
		for _, x := range l.Segs {
			b = append(b, byte(x))
		}
		b = append(b, num(l.Len)...)
		b = append(b, four(l.Last)...)
	}
	return b
}

// summed is 224 bytes: b, zero bytes and the sum of all.
func summed(b []byte) []byte {
	x := make([]byte, 220, 224)
	copy(x, b)
	return append(x, four(crc.Sum(x))...)
}

// packed are the sectors of 224 bytes, with a number's bytes as their ends.
func packed(in []byte, number uint32) []byte {
	var b []byte
	for i := range 4 {
		b = append(b, four(number)...)
		b = append(b, in[56*i:56*i+56]...)
		b = append(b, four(number)...)
	}
	return b
}

// want is what Bytes must be of s.
func want(s super.Super) []byte { return packed(summed(text(s)), uint32(s.Number)) }

func must(t *testing.T, s super.Super) []byte {
	t.Helper()
	b, e := super.Bytes(s)
	if e != api.OK {
		t.Fatalf("Bytes(%+v) = %v", s, e)
	}
	return b
}

func TestMayNumbers(t *testing.T) {
	for _, c := range []struct {
		n  int
		ok bool
	}{{0, true}, {1, true}, {top - 1, true}, {top, true}, {top + 1, false}, {-1, false}, {1 << 32, false}, {1<<32 + 5, false}, {math.MaxInt, false}, {math.MinInt, false}, {-top, false}} {
		s := plain()
		s.Number = c.n
		if super.May(s, 96) != c.ok {
			t.Errorf("May of Number %d is not %v", c.n, c.ok)
		}
		s = plain()
		s.Boot = c.n
		if super.May(s, 96) != c.ok {
			t.Errorf("May of Boot %d is not %v", c.n, c.ok)
		}
	}
}

func TestMaySegments(t *testing.T) {
	for seg := -3; seg < 400; seg++ {
		for _, segs := range []int{math.MinInt, -1, 0, 1, 2, 50, 95, 96, 97, 300, math.MaxInt} {
			ok := seg >= 0 && seg < segs && seg < 96
			a := super.Super{Journal: logOf(0, 0, seg)}
			b := super.Super{Chunks: logOf(0, 0, seg)}
			if super.May(a, segs) != ok || super.May(b, segs) != ok {
				t.Fatalf("May of segment %d of %d is not %v", seg, segs, ok)
			}
		}
	}
	for _, seg := range []int{math.MinInt, math.MaxInt, 1 << 32, -1 << 32} {
		if super.May(super.Super{Journal: logOf(0, 0, seg)}, 96) {
			t.Errorf("May of segment %d", seg)
		}
	}
	for _, segs := range []int{math.MinInt, -4, 0, 96, math.MaxInt} {
		if !super.May(super.Super{}, segs) {
			t.Errorf("May of no segments, of %d", segs)
		}
	}
}

func TestMayTwice(t *testing.T) {
	for _, c := range []struct {
		j, c []int
		ok   bool
	}{
		{[]int{1, 2, 3}, []int{4, 5}, true},
		{[]int{3, 2, 1}, []int{5, 0, 4}, true},
		{[]int{1, 2, 1}, nil, false},
		{[]int{7, 7}, []int{1}, false},
		{nil, []int{0, 1, 0}, false},
		{[]int{9}, []int{95, 4, 95}, false},
		{[]int{1, 2, 3}, []int{3}, false},
		{[]int{0}, []int{0}, false},
		{[]int{95, 1}, []int{2, 95}, false},
		{upTo(0, 96), nil, true},
		{upTo(0, 96), []int{40}, false},
		{append(upTo(0, 96), 0), nil, false},
	} {
		s := super.Super{Journal: logOf(0, 0, c.j...), Chunks: logOf(0, 0, c.c...)}
		if super.May(s, 96) != c.ok {
			t.Errorf("May of %v and %v is not %v", c.j, c.c, c.ok)
		}
	}
}

func TestMayLen(t *testing.T) {
	for n := range 97 {
		for _, length := range []int{math.MinInt, -1, 0, 1, 8*n - 1, 8 * n, 8*n + 1, 8*n + 8, math.MaxInt} {
			ok := length >= 0 && length <= 8*n
			a := super.Super{Journal: logOf(length, 0, upTo(0, n)...)}
			b := super.Super{Chunks: logOf(length, 0, upTo(0, n)...)}
			if super.May(a, 96) != ok || super.May(b, 96) != ok {
				t.Fatalf("May of Len %d with %d segments is not %v", length, n, ok)
			}
		}
	}
	// One log's segments are no room for the other.
	for _, s := range []super.Super{
		{Journal: logOf(9, 0, 1), Chunks: logOf(0, 0, 2)},
		{Journal: logOf(0, 0, 1), Chunks: logOf(9, 0, 2)},
	} {
		if super.May(s, 96) {
			t.Errorf("May of %+v", s)
		}
	}
}

func TestBytesRefused(t *testing.T) {
	for _, s := range []super.Super{
		{Number: -1}, {Boot: -1}, {Number: top + 1}, {Boot: top + 1},
		{Journal: logOf(0, 0, 96)}, {Chunks: logOf(0, 0, -1)}, {Journal: logOf(0, 0, 3), Chunks: logOf(0, 0, 3)},
		{Journal: logOf(1, 0)}, {Chunks: logOf(-1, 0)}, {Journal: logOf(9, 0, 3)},
	} {
		if b, e := super.Bytes(s); e != api.ErrArg || len(b) != 0 {
			t.Errorf("Bytes(%+v) = %v, %v", s, b, e)
		}
	}
	if _, e := super.Bytes(super.Super{Journal: logOf(0, 0, 95)}); e != api.OK {
		t.Errorf("Bytes with the last segment: %v", e)
	}
}

func TestBytesByHand(t *testing.T) {
	b := must(t, plain())
	if len(b) != 256 {
		t.Fatalf("%d bytes", len(b))
	}
	first := []byte{44, 1, 0, 0, 'T', 'R', 172, 2, 2, 2, 5, 0, 13, 4, 3, 2, 1, 1, 3, 7, 0xD4, 0xC3, 0xB2, 0xA1}
	if !bytes.Equal(b[:24], first) {
		t.Errorf("begins with %v, want %v", b[:24], first)
	}
	var in []byte
	for i := range 4 {
		sector := b[64*i : 64*i+64]
		if !bytes.Equal(sector[:4], first[:4]) || !bytes.Equal(sector[60:], first[:4]) {
			t.Errorf("sector %d has the ends %v and %v", i, sector[:4], sector[60:])
		}
		in = append(in, sector[4:60]...)
	}
	if !bytes.Equal(in[20:220], make([]byte, 200)) {
		t.Errorf("behind the logs: %v", in[20:220])
	}
	if !bytes.Equal(in[220:], crc.Bytes(crc.Sum(in[:220]))) {
		t.Errorf("the sum is %v", in[220:])
	}
}

// some are ordinary ones, the ends, and some by chance.
func some() []super.Super {
	l := ends()
	r := rand.New(rand.NewSource(5))
	for range 500 {
		l = append(l, chance(r))
	}
	return l
}

func TestBytesAndParse(t *testing.T) {
	for _, s := range some() {
		if !super.May(s, 96) {
			t.Fatalf("May of %+v is false", s)
		}
		b := must(t, s)
		if !bytes.Equal(b, want(s)) {
			t.Fatalf("Bytes(%+v) = %v, want %v", s, b, want(s))
		}
		for _, segs := range []int{96, 97, math.MaxInt} {
			if got, ok := super.Parse(b, segs); !ok || !alike(got, s) {
				t.Fatalf("Parse(Bytes(%+v), %d) = %+v, %v", s, segs, got, ok)
			}
		}
	}
}

func TestParseSegs(t *testing.T) {
	for _, s := range some() {
		b := must(t, s)
		least := 0
		for _, x := range append(append([]int{}, s.Journal.Segs...), s.Chunks.Segs...) {
			least = max(least, x+1)
		}
		if got, ok := super.Parse(b, least); !ok || !alike(got, s) {
			t.Fatalf("Parse of %+v, %d segments: %+v, %v", s, least, got, ok)
		}
		if least == 0 {
			continue
		}
		for _, segs := range []int{least - 1, 0, -1, math.MinInt} {
			if got, ok := super.Parse(b, segs); ok || !none(got) {
				t.Fatalf("Parse of %+v, %d segments: %+v, %v", s, segs, got, ok)
			}
		}
	}
	b := must(t, super.Super{Number: 9})
	for _, segs := range []int{0, -7, math.MinInt} {
		if got, ok := super.Parse(b, segs); !ok || got.Number != 9 {
			t.Errorf("Parse without segments, of %d: %+v, %v", segs, got, ok)
		}
	}
}

// refuses asks that b is none.
func refuses(t *testing.T, what string, b []byte) {
	t.Helper()
	if s, ok := super.Parse(b, 96); ok || !none(s) {
		t.Errorf("%s: Parse = %+v, %v", what, s, ok)
	}
}

func TestParseLength(t *testing.T) {
	b := must(t, plain())
	for n := range 256 {
		refuses(t, fmt.Sprint("the first ", n), b[:n])
		refuses(t, fmt.Sprint("all but the first ", n+1), b[n+1:])
	}
	refuses(t, "nil", nil)
	for _, more := range []int{1, 63, 64, 256} {
		refuses(t, fmt.Sprint(more, " more"), append(bytes.Clone(b), make([]byte, more)...))
		refuses(t, fmt.Sprint(more, " ahead"), append(make([]byte, more), b...))
	}
	// One sector more, whose sum and ends are right.
	long := make([]byte, 276)
	copy(long, text(plain()))
	long = append(long, crc.Bytes(crc.Sum(long))...)
	var five []byte
	for i := range 5 {
		five = append(append(append(five, four(300)...), long[56*i:56*i+56]...), four(300)...)
	}
	refuses(t, "five sectors", five)
}

func TestParseTurned(t *testing.T) {
	for _, s := range ends() {
		b := must(t, s)
		for at := range b {
			for x := 1; x < 256; x++ {
				b[at] ^= byte(x)
				if got, ok := super.Parse(b, 96); ok || !none(got) {
					t.Fatalf("%+v: byte %d turned by %d: Parse = %+v, %v", s, at, x, got, ok)
				}
				b[at] ^= byte(x)
			}
		}
	}
}

func TestParseEnds(t *testing.T) {
	for _, s := range []super.Super{plain(), {}, {Number: top}} {
		in := summed(text(s))
		for _, other := range []int{s.Number + 1, s.Number ^ 1<<8, s.Number ^ 1<<16, s.Number ^ 1<<30, s.Number ^ 1<<31} {
			refuses(t, "all ends are another Number's", packed(in, uint32(other)))
			for i := range 4 {
				for _, at := range []int{0, 60} {
					b := want(s)
					copy(b[64*i+at:], four(uint32(other)))
					refuses(t, "an end is another Number's", b)
				}
				b := want(s)
				copy(b[64*i:], four(uint32(other)))
				copy(b[64*i+60:], four(uint32(other)))
				refuses(t, "both ends of a sector are another Number's", b)
			}
		}
	}
}

// TestParseSumRight has the sum and the ends right, but what is summed is not what Bytes makes.
func TestParseSumRight(t *testing.T) {
	s := plain()
	in := summed(text(s))
	if got, ok := super.Parse(packed(in, 300), 96); !ok || !alike(got, s) {
		t.Fatal("the right one is none")
	}
	for at := 20; at < 220; at++ {
		odd := bytes.Clone(in[:220])
		odd[at] = byte(at)
		refuses(t, fmt.Sprint("byte ", at, " is not 0"), packed(summed(odd), 300))
	}
	a, b := append([]byte("TR"), num(300)...), []byte{0, 0, 0, 0}
	row := func(l ...[]byte) []byte { return bytes.Join(l, nil) }
	for what, odd := range map[string][]byte{
		"not T":             row([]byte("tR"), num(300), num(2), num(0), num(0), b, num(0), num(0), b),
		"not R":             row([]byte("TT"), num(300), num(2), num(0), num(0), b, num(0), num(0), b),
		"a long Number":     row([]byte{'T', 'R', 172, 130, 0}, num(2), num(0), num(0), b, num(0), num(0), b),
		"a long Boot":       row(a, []byte{130, 0}, num(0), num(0), b, num(0), num(0), b),
		"a long count":      row(a, num(2), []byte{128, 0}, num(0), b, num(0), num(0), b),
		"a long Len":        row(a, num(2), num(0), []byte{128, 0}, b, num(0), num(0), b),
		"a great Boot":      row(a, num(top+1), num(0), num(0), b, num(0), num(0), b),
		"the greatest Boot": row(a, num(1<<62), num(0), num(0), b, num(0), num(0), b),
		"a segment 96":      row(a, num(2), num(1), []byte{96}, num(0), b, num(0), num(0), b),
		"a segment 255":     row(a, num(2), num(0), num(0), b, num(1), []byte{255}, num(0), b),
		"twice in one":      row(a, num(2), num(2), []byte{4, 4}, num(0), b, num(0), num(0), b),
		"twice in both":     row(a, num(2), num(1), []byte{4}, num(0), b, num(1), []byte{4}, num(0), b),
		"a great Len":       row(a, num(2), num(1), []byte{4}, num(9), b, num(0), num(0), b),
		"a Len of none":     row(a, num(2), num(0), num(0), b, num(0), num(1), b),
		"a greatest Len":    row(a, num(2), num(1), []byte{4}, num(1<<62), b, num(0), num(0), b),
		"too many":          row(a, num(2), num(97), make([]byte, 97), num(0), b, num(0), num(0), b),
		"very many":         row(a, num(2), num(1<<62)),
		"very many behind":  row(a, num(2), num(0), num(0), b, num(1<<62)),
		"cut in Boot":       row(a, bytes.Repeat([]byte{255}, 216)),
		"all 255":           bytes.Repeat([]byte{255}, 220),
		"all noughts":       nil,
	} {
		refuses(t, what, packed(summed(odd), 300))
	}
	great := row([]byte("TR"), num(top+1), num(0), num(0), num(0), b, num(0), num(0), b)
	refuses(t, "a great Number", packed(summed(great), top+1))
	huge := row([]byte("TR"), num(1<<32+300), num(0), num(0), num(0), b, num(0), num(0), b)
	refuses(t, "a huge Number", packed(summed(huge), 300))
}

// TestParseAny has rows of bytes with right sums, most of them none: what is taken must be what Bytes makes.
func TestParseAny(t *testing.T) {
	r := rand.New(rand.NewSource(9))
	taken := 0
	for range 30000 {
		s := chance(r)
		in := text(s)
		for range r.Intn(3) {
			in[r.Intn(len(in))] = byte(r.Intn(256) >> uint(r.Intn(8)))
		}
		b := packed(summed(in), uint32(s.Number))
		segs := r.Intn(100)
		got, ok := super.Parse(b, segs)
		if !ok {
			if !none(got) {
				t.Fatalf("beside false: %+v", got)
			}
			continue
		}
		taken++
		if !super.May(got, segs) || !bytes.Equal(want(got), b) {
			t.Fatalf("Parse took %+v of %v", got, b)
		}
	}
	if taken == 0 {
		t.Error("none was taken")
	}
}

// fresh is a disk that must be there, each byte of it told from those beside it.
func fresh(t *testing.T, sectors int) *disk.Disk {
	t.Helper()
	d, e := disk.New(sectors)
	if e != api.OK {
		t.Fatalf("New(%d) = %v", sectors, e)
	}
	for n := range sectors {
		d.Spoil(n, 0, patterned(n))
	}
	return d
}

func patterned(n int) []byte {
	b := make([]byte, api.Sector)
	for i := range b {
		b[i] = byte(31*n + 7*i + 1)
	}
	return b
}

// sectors are all bytes of a disk.
func sectors(t *testing.T, d *disk.Disk) []byte {
	t.Helper()
	var l []byte
	for n := range d.Sectors() {
		b, e := d.Read(n)
		if e != api.OK {
			t.Fatalf("Read(%d) = %v", n, e)
		}
		l = append(l, b...)
	}
	return l
}

func TestWriteWhere(t *testing.T) {
	for _, size := range []int{8, 9, 20, api.MaxSectors} {
		for slot := range 2 {
			for _, s := range []super.Super{plain(), {}, {Number: top, Boot: top, Chunks: logOf(768, 9, upTo(0, 96)...)}} {
				d := fresh(t, size)
				now := sectors(t, d)
				elder := bytes.Clone(now)
				if e := super.Write(d, slot, s); e != api.OK {
					t.Fatalf("Write = %v", e)
				}
				copy(now[slot*256:], want(s))
				if !bytes.Equal(sectors(t, d), now) {
					t.Errorf("slot %d of %d sectors: others are written, or these are wrong", slot, size)
				}
				if d.Ops() != 4 {
					t.Errorf("%d writes", d.Ops())
				}
				// Nothing is flushed: all of it may be lost, and all of it may stay.
				if !bytes.Equal(sectors(t, d.Crash(nil)), elder) || !bytes.Equal(sectors(t, d.Crash([]byte{1})), now) {
					t.Error("what was written is not in the cache")
				}
				if got, ok := super.Read(d, slot, 96); !ok || !alike(got, s) {
					t.Errorf("Read = %+v, %v", got, ok)
				}
				if got, ok := super.Read(d, 1-slot, 96); ok || !none(got) {
					t.Errorf("Read of the other = %+v, %v", got, ok)
				}
			}
		}
	}
}

func TestWriteRefused(t *testing.T) {
	d := fresh(t, 40)
	for _, slot := range []int{-1, 2, 3, math.MinInt, math.MaxInt, 1 << 62, 1 << 61, -1 << 62, 1<<32 + 1} {
		if e := super.Write(d, slot, plain()); e != api.ErrArg {
			t.Errorf("Write to slot %d = %v", slot, e)
		}
	}
	for _, s := range []super.Super{{Number: -1}, {Boot: top + 1}, {Journal: logOf(0, 0, 96)}, {Chunks: logOf(1, 0)}} {
		if e := super.Write(d, 0, s); e != api.ErrArg {
			t.Errorf("Write of %+v = %v", s, e)
		}
	}
	if !bytes.Equal(sectors(t, d), sectors(t, fresh(t, 40))) || d.Ops() != 0 {
		t.Error("what is refused is written")
	}
	if e := super.Write(nil, 0, plain()); e != api.ErrArg {
		t.Errorf("Write to nil = %v", e)
	}
}

func TestWriteSmall(t *testing.T) {
	for size := range 9 {
		for slot := range 2 {
			d := fresh(t, size)
			ops := 4
			wanted := api.OK
			if size < 4*slot+4 {
				ops, wanted = 0, api.ErrArg
			}
			if e := super.Write(d, slot, plain()); e != wanted {
				t.Errorf("Write to slot %d of %d sectors = %v", slot, size, e)
			}
			if d.Ops() != ops || wanted != api.OK && !bytes.Equal(sectors(t, d), sectors(t, fresh(t, size))) {
				t.Errorf("slot %d of %d sectors: %d writes", slot, size, d.Ops())
			}
			got, ok := super.Read(d, slot, 96)
			if ok != (wanted == api.OK) || !ok && !none(got) {
				t.Errorf("Read of slot %d of %d sectors = %+v, %v", slot, size, got, ok)
			}
		}
	}
}

func TestWriteFuse(t *testing.T) {
	for ops := range 6 {
		d := fresh(t, 8)
		super.Write(d, 1, super.Super{Number: 7})
		d.Flush()
		d.Fuse(ops)
		wanted := api.OK
		if ops < 4 {
			wanted = api.ErrDead
		}
		if e := super.Write(d, 1, plain()); e != wanted || d.Dead() != (ops < 4) {
			t.Errorf("Write with a fuse of %d = %v", ops, e)
		}
		now := sectors(t, d.Crash([]byte{1}))
		all := append(sectors(t, fresh(t, 8))[:256], want(super.Super{Number: 7})...)
		copy(all[256:], want(plain())[:64*min(ops, 4)])
		if !bytes.Equal(now, all) {
			t.Errorf("with a fuse of %d others are written, or not in their order", ops)
		}
	}
}

// dead is a disk with both slots written, on which power is gone.
func dead(t *testing.T, size int) *disk.Disk {
	t.Helper()
	d := fresh(t, size)
	super.Write(d, 0, plain())
	super.Write(d, 1, plain())
	d.Fuse(0)
	d.Flush()
	if !d.Dead() {
		t.Fatal("it is alive")
	}
	return d
}

func TestDead(t *testing.T) {
	for _, size := range []int{0, 3, 4, 7, 8, 30} {
		d := dead(t, size)
		for slot := range 2 {
			if e := super.Write(d, slot, plain()); e != api.ErrDead {
				t.Errorf("Write to a Dead one = %v", e)
			}
			if s, ok := super.Read(d, slot, 96); ok || !none(s) {
				t.Errorf("Read of a Dead one = %+v, %v", s, ok)
			}
		}
		if e := super.Write(d, 2, plain()); e != api.ErrArg {
			t.Errorf("Write to slot 2 of a Dead one = %v", e)
		}
		if s, e := super.Best(d, 96); e != api.ErrDead || !none(s) {
			t.Errorf("Best of a Dead one = %+v, %v", s, e)
		}
	}
}

func TestReadRefused(t *testing.T) {
	d := fresh(t, 40)
	for n := range 10 {
		for i := range 4 {
			d.Write(4*n+i, want(plain())[64*i:64*i+64])
		}
	}
	for slot := -2; slot < 12; slot++ {
		s, ok := super.Read(d, slot, 96)
		if ok != (slot == 0 || slot == 1) || !ok && !none(s) {
			t.Errorf("Read of slot %d = %+v, %v", slot, s, ok)
		}
	}
	for _, slot := range []int{math.MinInt, math.MaxInt, 1 << 62, -1 << 62, 1 << 61, 1<<62 + 1} {
		if s, ok := super.Read(d, slot, 96); ok || !none(s) {
			t.Errorf("Read of slot %d = %+v, %v", slot, s, ok)
		}
	}
	for segs := -1; segs < 100; segs++ {
		s, ok := super.Read(d, 1, segs)
		if ok != (segs > 5) || !ok && !none(s) || ok && !alike(s, plain()) {
			t.Errorf("Read of %d segments = %+v, %v", segs, s, ok)
		}
	}
	if s, ok := super.Read(nil, 0, 96); ok || !none(s) {
		t.Errorf("Read of nil = %+v, %v", s, ok)
	}
	if d.Ops() != 40 {
		t.Error("to Read is to write")
	}
}

// marked is one of this Number; Boot tells in which slot it is.
func marked(number, slot int) super.Super {
	return super.Super{Number: number, Boot: slot, Journal: logOf(3, 7, 9, 8)}
}

// best asks for what Best answers: Number and Boot.
func best(t *testing.T, what string, d *disk.Disk, segs int, want super.Super) {
	t.Helper()
	if s, e := super.Best(d, segs); e != api.OK || !alike(s, want) {
		t.Errorf("%s: Best = %+v, %v, want %+v", what, s, e, want)
	}
}

func corrupt(t *testing.T, what string, d *disk.Disk, segs int) {
	t.Helper()
	if s, e := super.Best(d, segs); e != api.ErrCorrupt || !none(s) {
		t.Errorf("%s: Best = %+v, %v, want ErrCorrupt", what, s, e)
	}
}

func TestBest(t *testing.T) {
	numbers := []int{0, 1, 2, 127, 128, 255, 256, 257, 1 << 16, 1<<24 + 5, top - 1, top}
	for _, a := range numbers {
		for _, b := range numbers {
			d := fresh(t, 8)
			super.Write(d, 0, marked(a, 0))
			best(t, "one in slot 0", d, 96, marked(a, 0))
			super.Write(d, 1, marked(b, 1))
			wanted := marked(a, 0)
			if b > a {
				wanted = marked(b, 1)
			}
			best(t, "both written", d, 96, wanted)
			d.Spoil(2, 30, []byte{1})
			best(t, "slot 0 is spoilt", d, 96, marked(b, 1))
			d.Spoil(7, 63, []byte{200})
			corrupt(t, "both are spoilt", d, 96)
			super.Write(d, 0, marked(a, 0))
			best(t, "slot 1 is spoilt", d, 96, marked(a, 0))
		}
	}
}

func TestBestFew(t *testing.T) {
	for _, size := range []int{0, 1, 3, 4, 7, 8, 9} {
		corrupt(t, "nothing is written", fresh(t, size), 96)
		empty, _ := disk.New(size)
		corrupt(t, "all bytes are 0", empty, 96)
	}
	d := fresh(t, 5)
	super.Write(d, 0, plain())
	best(t, "there is slot 0 alone", d, 96, plain())
	d = fresh(t, 8)
	super.Write(d, 1, plain())
	best(t, "slot 1 alone", d, 96, plain())
	best(t, "6 segments", d, 6, plain())
	corrupt(t, "5 segments", d, 5)
	super.Write(d, 0, super.Super{Number: 1, Journal: logOf(0, 0, 4)})
	best(t, "the greater one", d, 6, plain())
	best(t, "the one for which there are segments", d, 5, super.Super{Number: 1, Journal: logOf(0, 0, 4)})
	corrupt(t, "4 segments", d, 4)
	if s, e := super.Best(nil, 96); e != api.ErrArg || !none(s) {
		t.Errorf("Best of nil = %+v, %v", s, e)
	}
}

// cuts are the bytes of a choice: as it was, as in the cache, and torn at these bytes.
func cuts(at ...int) []byte {
	l := []byte{0, 1}
	for _, n := range at {
		l = append(l, byte(4*n+3))
	}
	return l
}

// crashes asks for P5.3: over what is on the disk, new is written, and power goes.
func crashes(t *testing.T, d *disk.Disk, slot int, s super.Super, choices []byte) {
	t.Helper()
	elder, there := super.Read(d, slot, 96)
	other, whole := super.Read(d, 1-slot, 96)
	if e := super.Write(d, slot, s); e != api.OK {
		t.Fatalf("Write = %v", e)
	}
	k := len(choices)
	for i := range k * k * k * k {
		choice := []byte{choices[i%k], choices[i/k%k], choices[i/k/k%k], choices[i/k/k/k]}
		c := d.Crash(choice)
		got, ok := super.Read(c, slot, 96)
		if ok && !alike(got, s) && !(there && alike(got, elder)) {
			t.Fatalf("choice %v: %+v, it was %+v and is to be %+v", choice, got, elder, s)
		}
		if i == 0 && (ok != there || ok && !alike(got, elder)) {
			t.Fatal("without the cache it is not as it was")
		}
		if got, ok := super.Read(c, 1-slot, 96); ok != whole || !alike(got, other) {
			t.Fatalf("choice %v: the other slot is %+v, %v", choice, got, ok)
		}
	}
	if got, ok := super.Read(d.Crash([]byte{1}), slot, 96); !ok || !alike(got, s) {
		t.Fatal("with all of the cache it is not as it is to be")
	}
}

// twins are two whose Numbers are unlike, and of which any sectors together have the right sum: the ends alone
// tell them from one another. A last is turned by what the sums ahead of it are unlike by, so that both go on alike.
func twins(a, b int) (super.Super, super.Super) {
	x := super.Super{Number: a, Boot: 4, Journal: logOf(9, 77, 90, 91), Chunks: logOf(300, 88, upTo(0, 70)...)}
	y := super.Super{Number: b, Boot: 5, Journal: logOf(11, 0, 92, 93), Chunks: logOf(301, 0, upTo(0, 70)...)}
	// Up to a log's last, which has four bytes, and in a Super that has no other log two more behind it.
	ahead := func(s super.Super) uint32 {
		s.Chunks = super.Log{}
		in := text(s)
		return crc.Sum(in[:len(in)-10])
	}
	y.Journal.Last = x.Journal.Last ^ ahead(x) ^ ahead(y)
	all := func(s super.Super) uint32 {
		in := text(s)
		return crc.Sum(in[:len(in)-4])
	}
	y.Chunks.Last = x.Chunks.Last ^ all(x) ^ all(y)
	return x, y
}

func TestTwins(t *testing.T) {
	a, b := twins(5, 6)
	x, y := must(t, a), must(t, b)
	if !bytes.Equal(x[64*3+4:64*3+60], y[64*3+4:64*3+60]) || bytes.Equal(x[4:60], y[4:60]) || bytes.Equal(x[64+4:128-4], y[64+4:128-4]) {
		t.Fatal("they are no twins")
	}
	// With ends of one Number it would be a third one: what the promise speaks of is not the sum's doing.
	third := bytes.Clone(x)
	copy(third[:64], y[:64])
	refuses(t, "the first sector of one, the others of the other", third)
	for i := range 4 {
		copy(third[64*i:], y[:4])
		copy(third[64*i+60:], y[:4])
	}
	if s, ok := super.Parse(third, 96); !ok || alike(s, a) || alike(s, b) {
		t.Fatal("the sums are unlike")
	}
}

func TestTears(t *testing.T) {
	few := cuts(0, 1, 2, 3, 4, 5, 31, 59, 60, 61, 62, 63)
	twin, other := twins(300, 77)
	for _, c := range [][2]super.Super{
		{marked(5, 0), marked(6, 1)},
		{marked(6, 0), marked(5, 1)},
		{marked(255, 0), marked(256, 0)},
		{marked(1<<24, 0), marked(1<<24+1, 0)},
		{marked(top, 3), marked(0, 3)},
		{twin, other},
		{other, twin},
	} {
		for slot := range 2 {
			d := fresh(t, 8)
			super.Write(d, slot, c[0])
			super.Write(d, 1-slot, plain())
			d.Flush()
			crashes(t, d, slot, c[1], few)
		}
	}
}

func TestTearsAtEachByte(t *testing.T) {
	a, b := twins(1, 2)
	for slot := range 2 {
		for sector := range 4 {
			for cut := range 64 {
				for others := range 16 {
					d := fresh(t, 8)
					super.Write(d, slot, a)
					super.Write(d, 1-slot, marked(3, 3))
					d.Flush()
					super.Write(d, slot, b)
					choice := []byte{byte(others & 1), byte(others >> 1 & 1), byte(others >> 2 & 1), byte(others >> 3)}
					choice[sector] = byte(4*cut + 3)
					c := d.Crash(choice)
					if s, ok := super.Read(c, slot, 96); ok && !alike(s, a) && !alike(s, b) {
						t.Fatalf("choice %v: %+v", choice, s)
					}
					if s, ok := super.Read(c, 1-slot, 96); !ok || !alike(s, marked(3, 3)) {
						t.Fatalf("choice %v: the other slot is %+v, %v", choice, s, ok)
					}
				}
			}
		}
	}
}

// TestTearsOfTears writes over a slot that was torn already, with a Number that begins none of the ends that lie there.
func TestTearsOfTears(t *testing.T) {
	few := cuts(0, 1, 3, 40, 60, 62)
	a, b := twins(9, 10)
	for _, first := range [][]byte{{3 + 4*20, 1, 0, 1}, {1, 0, 0, 0}, {3 + 4*60, 3 + 4*61, 3 + 4*4, 1}, {0, 1, 1, 1}} {
		for _, s := range []super.Super{marked(11, 2), marked(0, 2), marked(10<<8, 1)} {
			d := fresh(t, 8)
			super.Write(d, 0, a)
			super.Write(d, 1, plain())
			d.Flush()
			super.Write(d, 0, b)
			crashes(t, d.Crash(first), 0, s, few)
		}
	}
	// And over bytes that were never a slot's.
	for _, number := range []int{0, 2, 500} {
		crashes(t, fresh(t, 8), 1, marked(number, 1), few)
	}
}

// roomy is a list with spare room, of which all is known.
func roomy(l ...int) []int {
	x := append(slices.Clone(l), 71, 72, 73)
	return x[:len(l)]
}

func TestArgumentsStay(t *testing.T) {
	s := super.Super{Number: 300, Boot: 2, Journal: logOf(13, 4, roomy(5, 0)...), Chunks: logOf(0, 0, roomy(3)...)}
	d := fresh(t, 8)
	super.May(s, 96)
	b := must(t, s)
	super.Write(d, 0, s)
	if !reflect.DeepEqual(s.Journal.Segs[:5], []int{5, 0, 71, 72, 73}) || !reflect.DeepEqual(s.Chunks.Segs[:4], []int{3, 71, 72, 73}) {
		t.Fatal("what was handed in is changed")
	}
	elder := bytes.Clone(b)
	s.Journal.Segs[0], s.Chunks.Segs[0] = 50, 51
	if !bytes.Equal(b, elder) || !bytes.Equal(sectors(t, d)[:256], elder) {
		t.Error("what was handed in is kept")
	}
	in := append(bytes.Clone(b), 1, 2, 3)[:256]
	got, ok := super.Parse(in, 96)
	if !ok || !bytes.Equal(in[:259], append(bytes.Clone(elder), 1, 2, 3)) {
		t.Fatal("what Parse was handed is changed")
	}
	clear(in)
	if !slices.Equal(got.Journal.Segs, []int{5, 0}) || !slices.Equal(got.Chunks.Segs, []int{3}) {
		t.Error("what Parse was handed is kept")
	}
}

func TestAnswersAreNew(t *testing.T) {
	s := plain()
	b := must(t, s)
	clear(b[:cap(b)])
	if !alike(s, plain()) || !bytes.Equal(must(t, s), want(plain())) {
		t.Error("Bytes' answer is not its own")
	}
	d := fresh(t, 8)
	super.Write(d, 0, plain())
	spoil := func(s super.Super) {
		for _, l := range [][]int{s.Journal.Segs, s.Chunks.Segs} {
			l = l[:cap(l)]
			for i := range l {
				l[i] = -9
			}
		}
	}
	one, _ := super.Read(d, 0, 96)
	two, _ := super.Best(d, 96)
	three, _ := super.Parse(want(plain()), 96)
	spoil(one)
	if !alike(two, plain()) || !alike(three, plain()) {
		t.Error("answers share memory")
	}
	spoil(two)
	best(t, "answers were changed", d, 96, plain())
	// Both lists of one answer are apart, spare room too.
	l := append(three.Journal.Segs, 60, 61, 62)
	for i := range l {
		l[i] = -9
	}
	if !slices.Equal(three.Chunks.Segs, plain().Chunks.Segs) {
		t.Error("the lists of one answer share memory")
	}
}
