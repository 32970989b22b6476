package frame_test

import (
	"bytes"
	"fmt"
	"hash/crc32"
	"math"
	"math/rand"
	"slices"
	"testing"

	"treering/api"
	"treering/frame"
)

const top = 1<<31 - 1

// sum is the sum of the library: a second way of reckoning it.
func sum(last uint32, b []byte) uint32 {
	return crc32.Update(last, crc32.MakeTable(crc32.Castagnoli), b)
}

// four are the four bytes of n, the lowest first.
func four(n uint32) []byte {
	return []byte{byte(n), byte(n >> 8), byte(n >> 16), byte(n >> 24)}
}

// byHand lays a frame together, whatever its numbers are.
func byHand(last, length, boot uint32, b []byte) []byte {
	head := slices.Concat(four(length), four(boot))
	return slices.Concat(head, four(sum(last, head)), b, four(sum(last, b)))
}

// record is a record of n bytes, by chance.
func record(r *rand.Rand, n int) []byte {
	b := make([]byte, n)
	r.Read(b)
	return b
}

// made is the frame of b, which must be one.
func made(t *testing.T, last uint32, boot int, b []byte) ([]byte, uint32) {
	t.Helper()
	f, next, e := frame.Make(last, boot, b)
	if e != api.OK {
		t.Fatalf("Make(%d, %d, %d bytes): error %d", last, boot, len(b), e)
	}
	return f, next
}

// none asks that no frame stands at b's beginning, and that nothing is answered beside false.
func none(t *testing.T, what string, last uint32, b []byte) {
	t.Helper()
	x, boot, next, ok := frame.Read(last, b)
	if ok {
		t.Errorf("%s: a frame, want none", what)
	}
	if len(x) != 0 || boot != 0 || next != 0 {
		t.Errorf("%s: %d bytes, boot %d, next %d beside false", what, len(x), boot, next)
	}
}

// holds asks that the frame at b's beginning is that of these.
func holds(t *testing.T, what string, last uint32, b, want []byte, boot int, next uint32) {
	t.Helper()
	x, n, y, ok := frame.Read(last, b)
	if !ok {
		t.Errorf("%s: no frame", what)
		return
	}
	if !bytes.Equal(x, want) || n != boot || y != next {
		t.Errorf("%s: %d bytes, boot %d, next %#x, want %d bytes, boot %d, next %#x", what, len(x), n, y, len(want), boot, next)
	}
}

// P7.1: every byte of some frames, as numbers.
func TestMakeByHand(t *testing.T) {
	// CRC-32C of "123456789" is 0xE3069283, the chapter 1 example
	f, next := made(t, 0, 0x01020304, []byte("123456789"))
	want := []byte{9, 0, 0, 0, 4, 3, 2, 1}
	want = append(want, four(sum(0, want))...)
	want = append(want, "123456789"...)
	want = append(want, 0x83, 0x92, 0x06, 0xE3)
	if !bytes.Equal(f, want) || next != 0xE3069283 {
		t.Errorf("%v, next %#x, want %v", f, next, want)
	}
	// the sum goes on from the last: of "1234" with "56789" behind it is that of all nine
	four1234 := sum(0, []byte("1234"))
	f, next = made(t, four1234, 0, []byte("56789"))
	if next != 0xE3069283 || !bytes.Equal(f[17:], []byte{0x83, 0x92, 0x06, 0xE3}) {
		t.Errorf("next %#x, bytes %v", next, f[17:])
	}
	// the head's sum goes on from the last too, not from the record's
	head := []byte{5, 0, 0, 0, 0, 0, 0, 0}
	if !bytes.Equal(f[:8], head) || !bytes.Equal(f[8:12], four(sum(0, append([]byte("1234"), head...)))) {
		t.Errorf("head %v", f[:12])
	}
}

// P7.1: frames of all kinds are those that are laid together by hand.
func TestMakeEach(t *testing.T) {
	r := rand.New(rand.NewSource(71))
	lasts := []uint32{0, 1, 0x7FFFFFFF, 0x80000000, math.MaxUint32, 0xE3069283}
	boots := []int{0, 1, 255, 256, 65535, 1 << 24, top - 1, top}
	sizes := []int{1, 2, 3, 4, 5, 127, 128, 255, 256, 257, 4096, api.MaxRecord - 1, api.MaxRecord}
	for _, last := range lasts {
		for _, boot := range boots {
			for _, n := range sizes {
				b := record(r, n)
				f, next := made(t, last, boot, b)
				if !bytes.Equal(f, byHand(last, uint32(n), uint32(boot), b)) {
					t.Fatalf("Make(%#x, %d, %d bytes): not the bytes by hand", last, boot, n)
				}
				if next != sum(last, b) {
					t.Fatalf("Make(%#x, %d, %d bytes): next %#x, want %#x", last, boot, n, next, sum(last, b))
				}
			}
		}
	}
}

// P7.1, R2: what is refused, at both ends; the lists and the next last are nought then.
func TestMakeRefuses(t *testing.T) {
	big := make([]byte, api.MaxRecord+1)
	for _, c := range []struct {
		boot int
		b    []byte
		want api.Errno
	}{
		{0, nil, api.ErrArg},
		{0, []byte{}, api.ErrArg},
		{0, big[:1], api.OK},
		{0, big[:api.MaxRecord], api.OK},
		{0, big, api.ErrArg},
		{0, make([]byte, 1<<17), api.ErrArg},
		{-1, big[:1], api.ErrArg},
		{top, big[:1], api.OK},
		{top + 1, big[:1], api.ErrArg},
		{1 << 32, big[:1], api.ErrArg},
		{1<<32 + 1, big[:1], api.ErrArg},
		{math.MaxInt, big[:1], api.ErrArg},
		{math.MinInt, big[:1], api.ErrArg},
		{-1, nil, api.ErrArg},
	} {
		f, next, e := frame.Make(77, c.boot, c.b)
		what := fmt.Sprintf("Make(77, %d, %d bytes)", c.boot, len(c.b))
		if e != c.want {
			t.Errorf("%s: error %d, want %d", what, e, c.want)
		}
		if e != api.OK && (len(f) != 0 || next != 0) {
			t.Errorf("%s: %d bytes, next %d beside an error", what, len(f), next)
		}
	}
}

// P7.1: a frame is read as it was made, whatever stands behind it.
func TestReadBack(t *testing.T) {
	r := rand.New(rand.NewSource(72))
	sizes := []int{1, 2, 3, 4, 12, 16, 17, 255, 256, 1000, api.MaxRecord - 1, api.MaxRecord}
	for _, n := range sizes {
		for _, boot := range []int{0, 1, 70000, top} {
			last := r.Uint32()
			b := record(r, n)
			f, next := made(t, last, boot, b)
			for _, behind := range [][]byte{nil, {0}, {255}, make([]byte, 100), f, record(r, 300)} {
				holds(t, fmt.Sprint(n, boot, len(behind)), last, slices.Concat(f, behind), b, boot, next)
			}
		}
	}
}

// P7.1: what other hands have laid together by the same rule is a frame too.
func TestReadByHand(t *testing.T) {
	for _, c := range []struct {
		last uint32
		boot int
		b    string
	}{{0, 0, "a"}, {0, top, "\x00"}, {math.MaxUint32, 1, "abc"}, {0x80000000, 258, "xyz"}} {
		b := []byte(c.b)
		holds(t, c.b, c.last, byHand(c.last, uint32(len(b)), uint32(c.boot), b), b, c.boot, sum(c.last, b))
	}
}

// P7.1, R2: cut anywhere it is none.
func TestReadCut(t *testing.T) {
	r := rand.New(rand.NewSource(73))
	for _, n := range []int{1, 2, 5, 60, api.MaxRecord} {
		b := record(r, n)
		f, _ := made(t, 9, 3, b)
		for i := range f {
			if n == api.MaxRecord && i%97 != 0 && i > 40 && i < len(f)-40 {
				continue
			}
			none(t, fmt.Sprint("the first ", i, " of ", len(f)), 9, f[:i:i])
			none(t, fmt.Sprint("the first ", i, " of ", len(f), " with the rest as spare room"), 9, f[:i])
			if i > 0 && i < 20 {
				none(t, fmt.Sprint("without the first ", i), 9, f[i:])
			}
		}
	}
	none(t, "nil", 0, nil)
	none(t, "empty", 0, []byte{})
	none(t, "zero bytes", 0, make([]byte, 100))
	none(t, "all ones", 0, bytes.Repeat([]byte{255}, 20000))
}

// P7.1: numbers that Make would not make, with all their sums right, are none.
func TestReadNumbers(t *testing.T) {
	long := make([]byte, api.MaxRecord+1)
	none(t, "no byte", 5, byHand(5, 0, 0, nil))
	none(t, "no byte, with some behind", 5, slices.Concat(byHand(5, 0, 0, nil), long))
	none(t, "one more than MaxRecord", 5, byHand(5, api.MaxRecord+1, 0, long))
	holds(t, "MaxRecord", 5, byHand(5, api.MaxRecord, 0, long[:api.MaxRecord]), long[:api.MaxRecord], 0, sum(5, long[:api.MaxRecord]))
	for _, n := range []uint32{1 << 15, 1 << 16, 1<<16 + 1, 1<<24 + 1, top, 1 << 31, 1<<31 + 1, math.MaxUint32 - 15, math.MaxUint32 - 4, math.MaxUint32} {
		none(t, fmt.Sprint("length ", n), 5, byHand(5, n, 0, long[:1]))
		none(t, fmt.Sprint("length ", n, ", long"), 5, byHand(5, n, 0, make([]byte, 1<<17)))
	}
	b := []byte("a")
	holds(t, "boot at its end", 5, byHand(5, 1, top, b), b, top, sum(5, b))
	for _, boot := range []uint32{1 << 31, 1<<31 + 1, math.MaxUint32 - 1, math.MaxUint32} {
		none(t, fmt.Sprint("boot ", boot), 5, byHand(5, 1, boot, b))
	}
	none(t, "a length of one less", 5, byHand(5, 2, 0, []byte("abc")))
	none(t, "a length of one more", 5, byHand(5, 4, 0, []byte("abc")))
}

// P7.1: a sum that does not fit: each of both, alone, with each wrong byte at each place.
func TestReadSums(t *testing.T) {
	f, _ := made(t, 1<<31, 4, []byte("record"))
	for _, from := range []int{8, len(f) - 4} {
		for i := from; i < from+4; i++ {
			for x := 1; x < 256; x++ {
				g := slices.Clone(f)
				g[i] ^= byte(x)
				none(t, fmt.Sprint("byte ", i, " turned by ", x), 1<<31, g)
			}
		}
	}
	b := []byte("record")
	head := slices.Concat(four(6), four(4))
	for what, g := range map[string][]byte{
		"the head's sum not from the last":   slices.Concat(head, four(sum(0, head)), b, four(sum(7, b))),
		"the record's sum not from the last": slices.Concat(head, four(sum(7, head)), b, four(sum(0, b))),
		"the record's sum from the head's":   slices.Concat(head, four(sum(7, head)), b, four(sum(sum(7, head), b))),
		"both sums from nothing":             byHand(0, 6, 4, b),
	} {
		none(t, what, 7, g)
	}
}

// P7.1: frames one behind another are read one by one, each from the last of the one ahead.
func TestRow(t *testing.T) {
	r := rand.New(rand.NewSource(74))
	for range 50 {
		begin := r.Uint32()
		var records [][]byte
		var boots []int
		var all []byte
		last := begin
		for range r.Intn(12) {
			b := record(r, 1+r.Intn(1<<uint(r.Intn(12))))
			boot := r.Intn(1 << uint(r.Intn(32)))
			f, next := made(t, last, boot, b)
			all, last = append(all, f...), next
			records, boots = append(records, b), append(boots, boot)
		}
		end := last
		last = begin
		at := 0
		for i, b := range records {
			x, boot, next, ok := frame.Read(last, all[at:])
			if !ok || !bytes.Equal(x, b) || boot != boots[i] {
				t.Fatalf("frame %d of %d: %v, boot %d", i, len(records), ok, boot)
			}
			last, at = next, at+frame.Size(len(x))
		}
		if at != len(all) || last != end {
			t.Fatalf("read %d bytes of %d, last %#x, want %#x", at, len(all), last, end)
		}
		none(t, "behind the last frame", last, all[at:])
	}
}

// P7.1, P7.2: what one frame calls its last is needed for the one behind it, so none of a row may be left out or be twice there.
func TestRowHangsTogether(t *testing.T) {
	one, a := made(t, 0, 1, []byte("one"))
	two, b := made(t, a, 1, []byte("two"))
	three, _ := made(t, b, 1, []byte("three"))
	holds(t, "two behind one", a, two, []byte("two"), 1, b)
	none(t, "three behind one", a, three)
	none(t, "one behind one", a, one)
	none(t, "two behind two", b, two)
	none(t, "two at the beginning", 0, two)
}

// P7.1, Size: the chapter's example, the ends, and the frames themselves.
func TestSize(t *testing.T) {
	for n, want := range map[int]int{1: 17, 2: 18, 48: 64, api.MaxRecord - 1: 16399, api.MaxRecord: 16400, 0: 0, -1: 0, -15: 0, -16: 0, api.MaxRecord + 1: 0, 1 << 31: 0, 1<<32 + 1: 0, math.MaxInt: 0, math.MaxInt - 15: 0, math.MinInt: 0} {
		if got := frame.Size(n); got != want {
			t.Errorf("Size(%d): %d, want %d", n, got, want)
		}
	}
	for n := range 600 {
		f, _, _ := frame.Make(0, 0, make([]byte, n))
		if len(f) != frame.Size(n) {
			t.Errorf("a frame of %d bytes has %d, Size says %d", n, len(f), frame.Size(n))
		}
	}
	if frame.Head != 12 {
		t.Errorf("Head is %d", frame.Head)
	}
}

// P7.2: behind another last it is none, be it unlike in one bit or in many.
func TestAnotherLast(t *testing.T) {
	r := rand.New(rand.NewSource(75))
	for _, n := range []int{1, 3, 4, 5, 200, api.MaxRecord} {
		last := r.Uint32()
		f, next := made(t, last, 8, record(r, n))
		for bit := range 32 {
			none(t, fmt.Sprint("bit ", bit, " of the last"), last^1<<bit, f)
		}
		for range 20 {
			if other := r.Uint32(); other != last {
				none(t, "some other last", other, f)
			}
		}
		none(t, "its own next", next, f)
		none(t, "all bits of the last", ^last, f)
	}
}

// turn turns those of the 32 bits from bit i on that pattern has, as far as b goes; it tells how many were turned.
func turn(b []byte, i int, pattern uint32) int {
	n := 0
	for k := range 32 {
		if at := i + k; pattern>>k&1 == 1 && at < 8*len(b) {
			b[at/8] ^= 1 << (at % 8)
			n++
		}
	}
	return n
}

// P7.2: up to 32 bits one behind another turned, from each bit on, in its head, its record and its sums.
func TestTurned(t *testing.T) {
	r := rand.New(rand.NewSource(76))
	for _, n := range []int{1, 2, 3, 4, 5, 13, 90} {
		last := r.Uint32()
		f, _ := made(t, last, r.Intn(1<<31), record(r, n))
		spare := record(r, 400) // so that a longer frame would find something
		for i := range 8 * len(f) {
			patterns := []uint32{1, 3, 5, 0x80000001, math.MaxUint32, 0x82F63B79, 0x05EC76F1}
			for width := range 32 {
				patterns = append(patterns, 1|1<<width, math.MaxUint32>>width)
			}
			for range 20 {
				patterns = append(patterns, r.Uint32()|1)
			}
			for _, p := range patterns {
				g := slices.Clone(f)
				if turn(g, i, p) == 0 {
					continue
				}
				if _, _, _, ok := frame.Read(last, g); ok {
					t.Fatalf("%d bytes, bits from %d on turned by %#x: a frame", n, i, p)
				}
				if _, _, _, ok := frame.Read(last, append(g, spare...)); ok {
					t.Fatalf("%d bytes, bits from %d on turned by %#x, more behind it: a frame", n, i, p)
				}
			}
		}
	}
}

// P7.2: a great frame, turned at its ends and here and there.
func TestTurnedGreat(t *testing.T) {
	r := rand.New(rand.NewSource(77))
	f, _ := made(t, 3, 9, record(r, api.MaxRecord))
	places := []int{0, 7, 31, 32, 63, 64, 95, 96, 97, 8*len(f) - 33, 8*len(f) - 32, 8*len(f) - 1}
	for range 100 {
		places = append(places, r.Intn(8*len(f)))
	}
	for _, i := range places {
		g := slices.Clone(f)
		turn(g, i, r.Uint32()|1)
		none(t, fmt.Sprint("bits from ", i, " on"), 3, g)
	}
}

// framed is b with bytes ahead and behind it, b's own room reaching over those behind.
func framed(b []byte) (whole, inner []byte) {
	whole = slices.Concat([]byte{201, 202}, b, bytes.Repeat([]byte{203}, 64))
	return whole, whole[2 : 2+len(b)]
}

// R4: Make neither changes nor keeps what it is given, and answers new memory.
func TestMakeMemory(t *testing.T) {
	whole, b := framed([]byte("record"))
	ahead := slices.Clone(whole)
	f, next := made(t, 4, 5, b)
	if !bytes.Equal(whole, ahead) {
		t.Error("Make has changed what it was given, or what stands beside it")
	}
	want := slices.Clone(f)
	clear(whole)
	if !bytes.Equal(f, want) {
		t.Error("the frame shares memory with the record")
	}
	copy(whole, ahead)
	spoil(f)
	if !bytes.Equal(whole, ahead) {
		t.Error("the frame's memory is the record's")
	}
	if g, y := made(t, 4, 5, b); !bytes.Equal(g, want) || y != next {
		t.Error("a frame that was made ahead and changed shows in the next one")
	}
	frame.Make(4, -1, b)
	frame.Make(4, 1, whole[:0])
	if !bytes.Equal(whole, ahead) {
		t.Error("a Make that is refused has changed what it was given")
	}
}

// spoil writes over b and its spare room.
func spoil(b []byte) {
	b = b[:cap(b)]
	for i := range b {
		b[i] ^= 0x5A
	}
}

// R4: Read neither changes nor keeps what it is given, and answers new memory.
func TestReadMemory(t *testing.T) {
	f, next := made(t, 4, 5, []byte("record"))
	whole, b := framed(f)
	ahead := slices.Clone(whole)
	x, _, _, ok := frame.Read(4, b)
	if !ok || !bytes.Equal(whole, ahead) {
		t.Error("Read has changed what it was given, or what stands beside it")
	}
	clear(whole)
	if string(x) != "record" {
		t.Error("the record shares memory with the frame")
	}
	copy(whole, ahead)
	spoil(x)
	if !bytes.Equal(whole, ahead) {
		t.Error("the record's memory is the frame's")
	}
	holds(t, "once more", 4, b, []byte("record"), 5, next)
	frame.Read(5, b)
	frame.Read(4, b[:9])
	if !bytes.Equal(whole, ahead) {
		t.Error("a Read that finds none has changed what it was given")
	}
}

// R1: no bytes bring Read to a panic; what it takes as a frame is what Make makes.
func TestReadAnything(t *testing.T) {
	r := rand.New(rand.NewSource(78))
	for range 20000 {
		b := record(r, r.Intn(60))
		if len(b) >= 12 && r.Intn(2) == 0 { // a head that fits, so that the rest is looked at
			last := uint32(r.Intn(2))
			copy(b, four(uint32(r.Intn(40))))
			copy(b[4:], four(uint32(r.Intn(3))))
			copy(b[8:], four(sum(last, b[:8])))
		}
		for last := range uint32(2) {
			x, boot, next, ok := frame.Read(last, b)
			if !ok {
				continue
			}
			if f, y := made(t, last, boot, x); !bytes.HasPrefix(b, f) || y != next {
				t.Fatalf("Read(%d, %v): %v", last, b, x)
			}
		}
	}
}
