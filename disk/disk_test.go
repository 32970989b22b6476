package disk_test

import (
	"bytes"
	"math"
	"math/rand"
	"testing"

	"treering/api"
	"treering/disk"
)

// filled is a sector of one byte.
func filled(x byte) []byte { return bytes.Repeat([]byte{x}, api.Sector) }

// counted is a sector of which each byte is another: what stands at a wrong place is seen.
func counted(from byte) []byte {
	b := make([]byte, api.Sector)
	for i := range b {
		b[i] = from + byte(i)
	}
	return b
}

// joined is a new sector: the first n bytes of a, then those of b.
func joined(a, b []byte, n int) []byte {
	return append(append([]byte{}, a[:n]...), b[n:]...)
}

// fresh is a disk that must be there.
func fresh(t *testing.T, sectors int) *disk.Disk {
	t.Helper()
	d, e := disk.New(sectors)
	if e != api.OK || d == nil {
		t.Fatalf("New(%d) = %v, %v", sectors, d, e)
	}
	return d
}

func mustWrite(t *testing.T, d *disk.Disk, n int, b []byte) {
	t.Helper()
	if e := d.Write(n, b); e != api.OK {
		t.Fatalf("Write(%d) = %v", n, e)
	}
}

func mustFlush(t *testing.T, d *disk.Disk) {
	t.Helper()
	if e := d.Flush(); e != api.OK {
		t.Fatalf("Flush = %v", e)
	}
}

// holds asks for the bytes of sector n.
func holds(t *testing.T, d *disk.Disk, n int, want []byte) {
	t.Helper()
	got, e := d.Read(n)
	if e != api.OK || !bytes.Equal(got, want) {
		t.Errorf("Read(%d) = %v, %v, want %v", n, got, e, want)
	}
}

// noSectors are numbers of which a disk of so many sectors has none.
func noSectors(sectors int) []int {
	return []int{-1, sectors, sectors + 1, math.MinInt, math.MaxInt}
}

func TestNew(t *testing.T) {
	for _, n := range []int{0, 1, 2, 8, api.MaxSectors - 1, api.MaxSectors} {
		d := fresh(t, n)
		if d.Sectors() != n || d.Dead() || d.Ops() != 0 {
			t.Errorf("New(%d): %d sectors, dead %v, %d ops", n, d.Sectors(), d.Dead(), d.Ops())
		}
		for i := range n {
			holds(t, d, i, filled(0))
		}
	}
	for _, n := range []int{-1, api.MaxSectors + 1, math.MinInt, math.MaxInt} {
		if d, e := disk.New(n); d != nil || e != api.ErrArg {
			t.Errorf("New(%d) = %v, %v, want nil, %v", n, d, e, api.ErrArg)
		}
	}
}

func TestNewDisksShareNothing(t *testing.T) {
	a, b := fresh(t, 2), fresh(t, 2)
	mustWrite(t, a, 1, filled(5))
	mustFlush(t, a)
	holds(t, b, 1, filled(0))
	if b.Ops() != 0 {
		t.Errorf("%d ops on a disk that nobody wrote to", b.Ops())
	}
}

func TestReadWhatWasWrittenLast(t *testing.T) {
	d := fresh(t, 3)
	mustWrite(t, d, 0, counted(1))
	mustWrite(t, d, 2, counted(2))
	mustWrite(t, d, 2, counted(3))
	holds(t, d, 0, counted(1))
	holds(t, d, 1, filled(0))
	holds(t, d, 2, counted(3))
	mustFlush(t, d)
	holds(t, d, 0, counted(1))
	holds(t, d, 1, filled(0))
	holds(t, d, 2, counted(3))
	mustWrite(t, d, 0, counted(4))
	holds(t, d, 0, counted(4))
	holds(t, d, 2, counted(3))
}

func TestReadOfNoSector(t *testing.T) {
	for _, size := range []int{0, 1, 4, api.MaxSectors} {
		d := fresh(t, size)
		for _, n := range noSectors(size) {
			if b, e := d.Read(n); len(b) != 0 || e != api.ErrArg {
				t.Errorf("%d sectors: Read(%d) = %v, %v, want none, %v", size, n, b, e, api.ErrArg)
			}
		}
	}
}

func TestWriteRefused(t *testing.T) {
	d := fresh(t, 4)
	mustWrite(t, d, 3, filled(9))
	for _, n := range noSectors(4) {
		for _, b := range [][]byte{filled(1), filled(1)[:63], nil} {
			if e := d.Write(n, b); e != api.ErrArg {
				t.Errorf("Write(%d) of %d bytes = %v, want %v", n, len(b), e, api.ErrArg)
			}
		}
	}
	for _, b := range [][]byte{nil, {}, {1}, filled(1)[:63], append(filled(1), 1), make([]byte, 128), make([]byte, 63, 64)} {
		if e := d.Write(3, b); e != api.ErrArg {
			t.Errorf("Write of %d bytes = %v, want %v", len(b), e, api.ErrArg)
		}
	}
	if d.Ops() != 1 {
		t.Errorf("%d ops, want 1: what is refused is none", d.Ops())
	}
	holds(t, d, 0, filled(0))
	holds(t, d, 3, filled(9))
}

// TestWhatIsHandedIsNotShared is R4: neither what comes in nor what goes out is the disk's own.
func TestWhatIsHandedIsNotShared(t *testing.T) {
	d := fresh(t, 1)
	room := append(filled(7), filled(8)...)
	in := room[:api.Sector]
	for range 2 {
		mustWrite(t, d, 0, in)
		in[0] = 99
		holds(t, d, 0, filled(7))
		out, _ := d.Read(0)
		out[1] = 98
		whole := out[:cap(out)]
		for i := range whole {
			whole[i] = 97
		}
		holds(t, d, 0, filled(7))
		mustFlush(t, d)
		holds(t, d, 0, filled(7))
		out, _ = d.Read(0)
		out[2] = 96
		holds(t, d, 0, filled(7))
		in[0] = 7
	}
	if !bytes.Equal(room, append(filled(7), filled(8)...)) {
		t.Error("Write changed what it was handed")
	}
	choice := []byte{1, 2, 3, 4, 5}
	mustWrite(t, d, 0, filled(1))
	d.Crash(choice[:3])
	spoiled := []byte{4, 5, 6}
	d.Spoil(0, 0, spoiled[:2])
	spoiled[0] = 77
	holds(t, d, 0, joined([]byte{4, 5}, filled(1), 2))
	if !bytes.Equal(choice, []byte{1, 2, 3, 4, 5}) || !bytes.Equal(spoiled, []byte{77, 5, 6}) {
		t.Error("Crash or Spoil changed what it was handed")
	}
}

func TestFlush(t *testing.T) {
	d := fresh(t, 4)
	for n := range 4 {
		mustWrite(t, d, n, counted(byte(n)))
	}
	for n := range 4 {
		holds(t, d.Crash(nil), n, filled(0))
	}
	mustFlush(t, d)
	for n := range 4 {
		holds(t, d.Crash(nil), n, counted(byte(n)))
	}
}

// TestFlushEmptiesTheCache: what was flushed is not in the cache any more, so no byte of choice is for it.
func TestFlushEmptiesTheCache(t *testing.T) {
	d := fresh(t, 3)
	mustWrite(t, d, 0, filled(1))
	mustFlush(t, d)
	mustWrite(t, d, 2, filled(2))
	c := d.Crash([]byte{1, 0})
	holds(t, c, 0, filled(1))
	holds(t, c, 2, filled(2))
	c = d.Crash([]byte{0, 1})
	holds(t, c, 0, filled(1))
	holds(t, c, 2, filled(0))
}

func TestOps(t *testing.T) {
	d := fresh(t, 2)
	want := 0
	hear := func(what string) {
		t.Helper()
		if d.Ops() != want {
			t.Errorf("%s: %d ops, want %d", what, d.Ops(), want)
		}
	}
	mustFlush(t, d)
	want++
	hear("Flush of an empty cache")
	mustWrite(t, d, 0, filled(0))
	want++
	hear("Write of what was there")
	mustWrite(t, d, 0, filled(1))
	want++
	hear("Write once more")
	mustFlush(t, d)
	want++
	hear("Flush")
	d.Write(2, filled(1))
	d.Write(0, nil)
	hear("Write refused")
	d.Read(0)
	d.Spoil(0, 0, []byte{1})
	d.Crash([]byte{1})
	d.Fuse(0)
	hear("others")
	d.Write(0, filled(1))
	d.Flush()
	hear("Write and Flush that the fuse forbids")
}

func TestFuseOfWrites(t *testing.T) {
	for ops := range 5 {
		d := fresh(t, 1)
		d.Fuse(ops)
		for i := range ops {
			mustWrite(t, d, 0, filled(byte(i+1)))
			if d.Dead() {
				t.Fatalf("Fuse(%d): dead behind %d", ops, i+1)
			}
			holds(t, d, 0, filled(byte(i+1)))
		}
		if e := d.Write(0, filled(99)); e != api.ErrDead || !d.Dead() || d.Ops() != ops {
			t.Errorf("Fuse(%d): the next Write = %v, dead %v, %d ops", ops, e, d.Dead(), d.Ops())
		}
		holds(t, d.Crash([]byte{1}), 0, filled(byte(ops)))
	}
}

func TestFuseOfFlushes(t *testing.T) {
	for ops := range 5 {
		d := fresh(t, 1)
		mustWrite(t, d, 0, filled(6))
		d.Fuse(ops)
		for range ops {
			mustFlush(t, d)
		}
		if d.Dead() {
			t.Fatalf("Fuse(%d): dead ahead of the next one", ops)
		}
		if e := d.Flush(); e != api.ErrDead || !d.Dead() || d.Ops() != ops+1 {
			t.Errorf("Fuse(%d): the next Flush = %v, dead %v, %d ops", ops, e, d.Dead(), d.Ops())
		}
		want := filled(6)
		if ops == 0 {
			want = filled(0)
		}
		holds(t, d.Crash(nil), 0, want)
	}
}

// TestFuseIsNotBurntByErrArg: a Write that is refused by ErrArg neither counts nor kills, at the fuse's end neither.
func TestFuseIsNotBurntByErrArg(t *testing.T) {
	d := fresh(t, 1)
	d.Fuse(2)
	for i := range 3 {
		for _, n := range noSectors(1) {
			if e := d.Write(n, filled(1)); e != api.ErrArg {
				t.Errorf("Write(%d) = %v, want %v", n, e, api.ErrArg)
			}
		}
		if e := d.Write(0, filled(1)[:63]); e != api.ErrArg || d.Dead() {
			t.Errorf("Write of 63 bytes = %v, dead %v", e, d.Dead())
		}
		if _, e := d.Read(0); e != api.OK {
			t.Errorf("Read = %v at the fuse's end", e)
		}
		if i < 2 {
			mustWrite(t, d, 0, filled(byte(i)))
		}
	}
	if e := d.Write(0, filled(9)); e != api.ErrDead || !d.Dead() {
		t.Errorf("Write = %v, dead %v", e, d.Dead())
	}
}

func TestFuseBelowNought(t *testing.T) {
	for _, never := range []int{-1, -2, -9, math.MinInt} {
		d := fresh(t, 1)
		d.Fuse(1)
		d.Fuse(never)
		for range 20 {
			mustWrite(t, d, 0, filled(1))
			mustFlush(t, d)
		}
		if d.Dead() || d.Ops() != 40 {
			t.Errorf("Fuse(%d): dead %v, %d ops", never, d.Dead(), d.Ops())
		}
	}
}

// TestFuseAnew: the last Fuse holds, and counts from where it was called.
func TestFuseAnew(t *testing.T) {
	d := fresh(t, 1)
	d.Fuse(1)
	mustWrite(t, d, 0, filled(1))
	d.Fuse(2)
	mustWrite(t, d, 0, filled(2))
	d.Fuse(math.MaxInt)
	mustFlush(t, d)
	d.Fuse(-1)
	mustFlush(t, d)
	d.Fuse(0)
	if d.Dead() {
		t.Error("dead of Fuse(0) alone")
	}
	if e := d.Flush(); e != api.ErrDead || !d.Dead() {
		t.Errorf("Flush = %v, dead %v", e, d.Dead())
	}
}

func TestDead(t *testing.T) {
	d := fresh(t, 2)
	mustWrite(t, d, 0, filled(1))
	d.Fuse(0)
	d.Flush()
	for _, ops := range []int{-1, 0, 5, math.MinInt, math.MaxInt} {
		d.Fuse(ops)
		if !d.Dead() {
			t.Fatalf("alive again by Fuse(%d)", ops)
		}
		if b, e := d.Read(0); len(b) != 0 || e != api.ErrDead {
			t.Errorf("Read = %v, %v", b, e)
		}
		if e := d.Write(0, filled(2)); e != api.ErrDead {
			t.Errorf("Write = %v", e)
		}
		if e := d.Flush(); e != api.ErrDead {
			t.Errorf("Flush = %v", e)
		}
	}
	if d.Ops() != 1 || d.Sectors() != 2 {
		t.Errorf("%d ops, %d sectors", d.Ops(), d.Sectors())
	}
	holds(t, d.Crash(nil), 0, filled(0))
	holds(t, d.Crash([]byte{1}), 0, filled(1))
}

// TestDeadIsNamedFirst is R6: a Dead disk says so, whatever the arguments.
func TestDeadIsNamedFirst(t *testing.T) {
	d := fresh(t, 2)
	d.Fuse(0)
	d.Flush()
	for _, n := range noSectors(2) {
		if b, e := d.Read(n); len(b) != 0 || e != api.ErrDead {
			t.Errorf("Read(%d) = %v, %v", n, b, e)
		}
		if e := d.Write(n, filled(1)); e != api.ErrDead {
			t.Errorf("Write(%d) = %v", n, e)
		}
	}
	if e := d.Write(0, nil); e != api.ErrDead {
		t.Errorf("Write of nothing = %v", e)
	}
}

// TestCrashExample is the chapter's: Write, Crash of 0: the sector is as it was.
func TestCrashExample(t *testing.T) {
	d := fresh(t, 1)
	mustWrite(t, d, 0, filled(1))
	mustFlush(t, d)
	mustWrite(t, d, 0, filled(2))
	holds(t, d.Crash([]byte{0}), 0, filled(1))
}

// TestCrashByEachByte asks each byte for what it leaves of one sector.
func TestCrashByEachByte(t *testing.T) {
	was, is := counted(0), counted(128)
	d := fresh(t, 1)
	mustWrite(t, d, 0, was)
	mustFlush(t, d)
	mustWrite(t, d, 0, is)
	for c := range 256 {
		want := was
		switch {
		case c%4 == 1:
			want = is
		case c%4 == 3:
			want = joined(is, was, c/4)
		}
		holds(t, d.Crash([]byte{byte(c)}), 0, want)
	}
	holds(t, d.Crash(nil), 0, was)
	holds(t, d.Crash([]byte{}), 0, was)
}

// TestCrashByNumber: the bytes of choice go round over the sectors in the cache by their numbers, not as they were written.
func TestCrashByNumber(t *testing.T) {
	d := fresh(t, 8)
	for _, n := range []int{6, 1, 4, 1, 3} {
		mustWrite(t, d, n, filled(byte(n)))
	}
	for _, c := range []struct {
		choice []byte
		stay   []int
	}{
		{[]byte{1}, []int{1, 3, 4, 6}},
		{[]byte{1, 0}, []int{1, 4}},
		{[]byte{0, 1}, []int{3, 6}},
		{[]byte{0, 0, 1}, []int{4}},
		{[]byte{1, 0, 0}, []int{1, 6}},
		{[]byte{0, 0, 0, 1}, []int{6}},
		{[]byte{0, 0, 0, 0, 1}, nil},
		{[]byte{1, 0, 2, 0, 1}, []int{1}},
	} {
		want := make([]byte, 8)
		for _, n := range c.stay {
			want[n] = byte(n)
		}
		found := d.Crash(c.choice)
		for n, x := range want {
			holds(t, found, n, filled(x))
		}
	}
}

// TestCrashOfTheLastWrite: of a sector that was written more than once the last one counts, though it be as on the disk.
func TestCrashOfTheLastWrite(t *testing.T) {
	d := fresh(t, 2)
	mustWrite(t, d, 0, filled(1))
	mustWrite(t, d, 0, filled(2))
	mustWrite(t, d, 1, filled(3))
	holds(t, d.Crash([]byte{1, 0}), 0, filled(2))
	holds(t, d.Crash([]byte{43}), 0, joined(filled(2), filled(0), 10))
	mustWrite(t, d, 0, filled(0))
	c := d.Crash([]byte{0, 1})
	holds(t, c, 0, filled(0))
	holds(t, c, 1, filled(3))
	holds(t, d.Crash([]byte{1, 0}), 1, filled(0))
}

func TestCrashIsANewDisk(t *testing.T) {
	for _, size := range []int{0, 1, 5, api.MaxSectors} {
		d := fresh(t, size)
		for n := range size {
			mustWrite(t, d, n, filled(1))
		}
		d.Fuse(0)
		d.Flush()
		c := d.Crash([]byte{1})
		if c.Sectors() != size || c.Dead() || c.Ops() != 0 {
			t.Errorf("%d sectors, want %d; dead %v, %d ops", c.Sectors(), size, c.Dead(), c.Ops())
		}
		for range 3 {
			mustFlush(t, c)
		}
		if c.Dead() || c.Ops() != 3 || d.Ops() != size {
			t.Errorf("dead %v, %d and %d ops", c.Dead(), c.Ops(), d.Ops())
		}
	}
}

// TestCrashTakesNoFuseAlong: a fuse that has not burnt down stays with the disk that it was laid to.
func TestCrashTakesNoFuseAlong(t *testing.T) {
	d := fresh(t, 1)
	d.Fuse(1)
	c := d.Crash(nil)
	for range 3 {
		mustWrite(t, c, 0, filled(1))
	}
	mustWrite(t, d, 0, filled(2))
	if e := d.Write(0, filled(3)); e != api.ErrDead {
		t.Errorf("Write = %v: a Crash took the fuse away", e)
	}
}

// TestCrashLeavesTheDisk: d is as it was, and neither of the two hears of the other.
func TestCrashLeavesTheDisk(t *testing.T) {
	d := fresh(t, 2)
	mustWrite(t, d, 0, filled(1))
	mustFlush(t, d)
	mustWrite(t, d, 0, filled(2))
	mustWrite(t, d, 1, filled(3))
	c := d.Crash([]byte{23})
	holds(t, d, 0, filled(2))
	holds(t, d, 1, filled(3))
	mustWrite(t, c, 0, filled(8))
	mustFlush(t, c)
	c.Spoil(1, 0, filled(9))
	holds(t, d, 0, filled(2))
	holds(t, d, 1, filled(3))
	holds(t, d.Crash(nil), 0, filled(1))
	holds(t, d.Crash(nil), 1, filled(0))
	mustWrite(t, d, 0, filled(10))
	mustFlush(t, d)
	d.Spoil(1, 0, filled(11))
	holds(t, c, 0, filled(8))
	holds(t, c, 1, filled(9))
}

// TestCrashedCacheIsEmpty: on the disk that a Crash answers nothing waits for a Flush.
func TestCrashedCacheIsEmpty(t *testing.T) {
	d := fresh(t, 2)
	mustWrite(t, d, 0, filled(1))
	c := d.Crash([]byte{1})
	holds(t, c.Crash(nil), 0, filled(1))
	mustWrite(t, c, 1, filled(2))
	holds(t, c.Crash([]byte{1, 0}), 1, filled(2))
}

func TestSpoil(t *testing.T) {
	for _, c := range []struct {
		at int
		b  []byte
	}{
		{0, []byte{200}}, {63, []byte{200}}, {62, []byte{200, 201}}, {5, []byte{1, 2, 3, 4}}, {0, counted(100)}, {0, counted(100)[:63]}, {1, counted(100)[:63]}, {7, nil}, {0, nil},
	} {
		d := fresh(t, 3)
		mustWrite(t, d, 1, counted(0))
		mustWrite(t, d, 2, counted(1))
		mustFlush(t, d)
		mustWrite(t, d, 1, counted(64))
		for n := range 3 {
			if !d.Spoil(n, c.at, c.b) {
				t.Errorf("Spoil(%d, %d, %v) is refused", n, c.at, c.b)
			}
		}
		turned := func(b []byte) []byte {
			b = append([]byte{}, b...)
			copy(b[c.at:], c.b)
			return b
		}
		holds(t, d, 0, turned(filled(0)))
		holds(t, d, 1, turned(counted(64)))
		holds(t, d, 2, turned(counted(1)))
		holds(t, d.Crash(nil), 0, turned(filled(0)))
		holds(t, d.Crash(nil), 1, turned(counted(0)))
		holds(t, d.Crash(nil), 2, turned(counted(1)))
		mustFlush(t, d)
		holds(t, d, 0, turned(filled(0)))
		holds(t, d, 1, turned(counted(64)))
		holds(t, d, 2, turned(counted(1)))
	}
}

// TestSpoilPutsNothingIntoTheCache: a sector that was not there is none of those that choice is for.
func TestSpoilPutsNothingIntoTheCache(t *testing.T) {
	d := fresh(t, 2)
	mustWrite(t, d, 1, filled(1))
	d.Spoil(0, 0, []byte{5})
	c := d.Crash([]byte{1, 0})
	holds(t, c, 0, joined([]byte{5}, filled(0), 1))
	holds(t, c, 1, filled(1))
}

// TestSpoilIsWrittenOver: a Write behind it holds, and the disk beneath stays turned till it is flushed.
func TestSpoilIsWrittenOver(t *testing.T) {
	d := fresh(t, 1)
	d.Spoil(0, 3, []byte{5})
	mustWrite(t, d, 0, filled(1))
	holds(t, d, 0, filled(1))
	want := filled(0)
	want[3] = 5
	holds(t, d.Crash(nil), 0, want)
}

func TestSpoilRefused(t *testing.T) {
	d := fresh(t, 2)
	mustWrite(t, d, 0, counted(1))
	for _, n := range noSectors(2) {
		for _, b := range [][]byte{nil, {1}, filled(1)} {
			if d.Spoil(n, 0, b) {
				t.Errorf("Spoil(%d, 0) of %d bytes is done", n, len(b))
			}
		}
	}
	for _, c := range []struct {
		at int
		b  []byte
	}{
		{-1, nil}, {-1, []byte{1}}, {-1, filled(1)}, {math.MinInt, []byte{1}}, {64, []byte{1}}, {63, []byte{1, 2}}, {1, filled(1)}, {0, append(filled(1), 1)}, {65, nil}, {math.MaxInt, nil}, {math.MaxInt, []byte{1}}, {math.MaxInt, filled(1)}, {-64, make([]byte, 128)},
	} {
		if d.Spoil(0, c.at, c.b) {
			t.Errorf("Spoil(0, %d) of %d bytes is done", c.at, len(c.b))
		}
	}
	holds(t, d, 0, counted(1))
	holds(t, d, 1, filled(0))
	holds(t, d.Crash(nil), 0, filled(0))
	if fresh(t, 0).Spoil(0, 0, nil) {
		t.Error("a sector of a disk without sectors is spoiled")
	}
}

func TestSpoilOfADeadOne(t *testing.T) {
	d := fresh(t, 1)
	mustWrite(t, d, 0, filled(1))
	d.Fuse(0)
	d.Flush()
	if !d.Spoil(0, 2, []byte{77}) || d.Spoil(0, 64, []byte{77}) || d.Spoil(1, 0, []byte{77}) {
		t.Error("Spoil of a Dead one does not tell what it did")
	}
	if !d.Dead() || d.Ops() != 1 {
		t.Errorf("dead %v, %d ops", d.Dead(), d.Ops())
	}
	want := filled(1)
	want[2] = 77
	holds(t, d.Crash([]byte{1}), 0, want)
	want = filled(0)
	want[2] = 77
	holds(t, d.Crash(nil), 0, want)
}

// TestSpoilBurnsNoFuse: it is no Write.
func TestSpoilBurnsNoFuse(t *testing.T) {
	d := fresh(t, 1)
	d.Fuse(1)
	for range 3 {
		d.Spoil(0, 0, []byte{1})
	}
	mustFlush(t, d)
	d.Spoil(0, 0, []byte{1})
	if d.Dead() || d.Ops() != 1 {
		t.Errorf("dead %v, %d ops", d.Dead(), d.Ops())
	}
}

// TestNil is R7.
func TestNil(t *testing.T) {
	var d *disk.Disk
	d.Fuse(0)
	d.Fuse(-1)
	if b, e := d.Read(0); len(b) != 0 || e != api.ErrArg {
		t.Errorf("Read = %v, %v", b, e)
	}
	if e := d.Write(0, filled(1)); e != api.ErrArg {
		t.Errorf("Write = %v", e)
	}
	if e := d.Flush(); e != api.ErrArg {
		t.Errorf("Flush = %v", e)
	}
	if d.Sectors() != 0 || d.Dead() || d.Ops() != 0 || d.Crash([]byte{1}) != nil || d.Crash(nil) != nil {
		t.Error("a nil Disk answers more than zero values")
	}
	if d.Spoil(0, 0, []byte{1}) || d.Spoil(0, 0, nil) {
		t.Error("a nil Disk is spoiled")
	}
}

// TestZeroDisk: one that New did not make is one without sectors, and without a fuse.
func TestZeroDisk(t *testing.T) {
	var d disk.Disk
	if d.Sectors() != 0 || d.Dead() || d.Flush() != api.OK || d.Write(0, filled(1)) != api.ErrArg || d.Ops() != 1 || d.Spoil(0, 0, nil) {
		t.Error("a zero Disk is not one without sectors")
	}
	if c := d.Crash([]byte{1}); c == nil || c.Sectors() != 0 {
		t.Error("a zero Disk does not crash to one like it")
	}
}

// deed is something that was done to a disk: a Write, a Flush (no sector), a Spoil.
type deed struct {
	flush bool
	n, at int
	b     []byte
	spoil bool
}

// told is the second reckoning of a disk: the list of what was done to it, gone through anew for each answer.
type told struct {
	sectors, ops, fuse int
	dead               bool
	deeds              []deed
}

// contents goes through the deeds: what is on the disk, and what is in the cache (nil: it is not there).
func (m *told) contents() (safe, cache [][]byte) {
	safe, cache = make([][]byte, m.sectors), make([][]byte, m.sectors)
	for i := range safe {
		safe[i] = filled(0)
	}
	for _, d := range m.deeds {
		switch {
		case d.spoil:
			copy(safe[d.n][d.at:], d.b)
			if cache[d.n] != nil {
				copy(cache[d.n][d.at:], d.b)
			}
		case d.flush:
			for i, c := range cache {
				if c != nil {
					safe[i], cache[i] = c, nil
				}
			}
		default:
			cache[d.n] = append([]byte{}, d.b...)
		}
	}
	return safe, cache
}

// burn tells whether one more Write or Flush is done.
func (m *told) burn() bool {
	if m.fuse == 0 {
		m.dead = true
		return false
	}
	m.fuse--
	m.ops++
	return true
}

func (m *told) write(n int, b []byte) api.Errno {
	switch {
	case m.dead:
		return api.ErrDead
	case n < 0 || n >= m.sectors || len(b) != api.Sector:
		return api.ErrArg
	case !m.burn():
		return api.ErrDead
	}
	m.deeds = append(m.deeds, deed{n: n, b: append([]byte{}, b...)})
	return api.OK
}

func (m *told) flush() api.Errno {
	if m.dead || !m.burn() {
		return api.ErrDead
	}
	m.deeds = append(m.deeds, deed{flush: true})
	return api.OK
}

func (m *told) spoil(n, at int, b []byte) bool {
	if n < 0 || n >= m.sectors || at < 0 || at > api.Sector || at+len(b) > api.Sector {
		return false
	}
	m.deeds = append(m.deeds, deed{spoil: true, n: n, at: at, b: append([]byte{}, b...)})
	return true
}

// after is what a Crash finds.
func (m *told) after(choice []byte) [][]byte {
	safe, cache := m.contents()
	var waiting []int
	for n, c := range cache {
		if c != nil {
			waiting = append(waiting, n)
		}
	}
	for i, n := range waiting {
		c := 0
		if len(choice) > 0 {
			c = int(choice[i%len(choice)])
		}
		if c&1 == 0 {
			continue
		}
		stay := api.Sector
		if c&2 != 0 {
			stay = c >> 2
		}
		safe[n] = joined(cache[n], safe[n], stay)
	}
	return safe
}

// hold asks the disk for all that can be told of it.
func (m *told) hold(t *testing.T, d *disk.Disk, choice []byte) {
	t.Helper()
	if d.Sectors() != m.sectors || d.Ops() != m.ops || d.Dead() != m.dead {
		t.Fatalf("%d sectors, %d ops, dead %v; want %d, %d, %v", d.Sectors(), d.Ops(), d.Dead(), m.sectors, m.ops, m.dead)
	}
	safe, cache := m.contents()
	for n := range safe {
		b, e := d.Read(n)
		want := safe[n]
		if cache[n] != nil {
			want = cache[n]
		}
		if m.dead && (len(b) != 0 || e != api.ErrDead) {
			t.Fatalf("Read(%d) = %v, %v of a Dead one", n, b, e)
		}
		if !m.dead && (e != api.OK || !bytes.Equal(b, want)) {
			t.Fatalf("Read(%d) = %v, %v, want %v", n, b, e, want)
		}
	}
	c := d.Crash(choice)
	if c.Sectors() != m.sectors || c.Ops() != 0 || c.Dead() {
		t.Fatalf("crashed: %d sectors, %d ops, dead %v", c.Sectors(), c.Ops(), c.Dead())
	}
	for n, want := range m.after(choice) {
		if b, e := c.Read(n); e != api.OK || !bytes.Equal(b, want) {
			t.Fatalf("crashed by %v: Read(%d) = %v, %v, want %v", choice, n, b, e, want)
		}
	}
}

// anyBytes are up to most-1 bytes of any kind.
func anyBytes(r *rand.Rand, most int) []byte {
	b := make([]byte, r.Intn(most))
	r.Read(b)
	return b
}

// anyLength is nearly always that of a sector.
func anyLength(r *rand.Rand) int {
	if r.Intn(8) == 0 {
		return r.Intn(2 * api.Sector)
	}
	return api.Sector
}

// step does the same to the disk and to the second reckoning.
func (m *told) step(t *testing.T, d *disk.Disk, r *rand.Rand) {
	t.Helper()
	n := r.Intn(m.sectors+2) - 1
	switch r.Intn(12) {
	case 0, 1:
		if got, want := d.Flush(), m.flush(); got != want {
			t.Fatalf("Flush = %v, want %v", got, want)
		}
	case 2, 3:
		at, b := r.Intn(api.Sector+4)-2, anyBytes(r, 8)
		if got, want := d.Spoil(n, at, b), m.spoil(n, at, b); got != want {
			t.Fatalf("Spoil(%d, %d) of %d bytes = %v, want %v", n, at, len(b), got, want)
		}
	case 4:
		if r.Intn(4) == 0 {
			m.fuse = r.Intn(30) - 5
			d.Fuse(m.fuse)
		}
	default:
		b := make([]byte, anyLength(r))
		r.Read(b)
		if got, want := d.Write(n, b), m.write(n, b); got != want {
			t.Fatalf("Write(%d) of %d bytes = %v, want %v", n, len(b), got, want)
		}
		for i := range b {
			b[i] = 0xEE
		}
	}
}

// TestAgainstASecondReckoning does steps of any kind, and asks for all behind each of them.
func TestAgainstASecondReckoning(t *testing.T) {
	for seed := range int64(150) {
		r := rand.New(rand.NewSource(seed))
		m := &told{sectors: r.Intn(6), fuse: -1}
		d := fresh(t, m.sectors)
		for range 60 {
			m.step(t, d, r)
			m.hold(t, d, anyBytes(r, 7))
		}
	}
}
