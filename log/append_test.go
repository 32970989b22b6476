package log_test

import (
	"bytes"
	"fmt"
	"math"
	"math/rand"
	"slices"
	"testing"

	"treering/api"
	"treering/disk"
	"treering/log"
	"treering/space"
	"treering/super"
)

// asWere asks that a call has left the log, its space and its disk as they were.
func asWere(t *testing.T, what string, l *log.Log, x *space.Space, d *disk.Disk, call func()) {
	t.Helper()
	w, ops, bytes := l.Where(), d.Ops(), all(t, d)
	y := x.Copy()
	call()
	lies(t, l, w)
	if d.Ops() != ops || !sameLists(all(t, d), bytes) {
		t.Errorf("%s: the disk is another", what)
	}
	sameSpace(t, what, x, y)
}

// sameSpace asks that the same segments are free.
func sameSpace(t *testing.T, what string, x, y *space.Space) {
	t.Helper()
	a, b := x.Copy(), y.Copy()
	for range api.MaxSegs + 1 {
		i, f := a.Take()
		j, g := b.Take()
		if i != j || f != g {
			t.Fatalf("%s: other segments are free", what)
		}
	}
}

// P8.2: frame's ErrArg, ahead of all else.
func TestAppendArg(t *testing.T) {
	for _, free := range []int{0, 1} {
		d, x := fresh(t, 4)
		l := log.New(d)
		add(t, l, x, 2, text(300, 1))
		for x.Free() > free {
			x.Take()
		}
		for _, c := range []struct{ boot, n int }{{-1, 5}, {1 << 31, 5}, {math.MinInt, 5}, {math.MaxInt, 5}, {1 << 32, 5}, {2, 0}, {2, api.MaxRecord + 1}, {-1, 0}, {-1, api.MaxRecord}} {
			what := fmt.Sprintf("boot %d, %d bytes", c.boot, c.n)
			asWere(t, what, l, x, d, func() {
				if e := l.Append(x, c.boot, text(c.n, 1)); e != api.ErrArg {
					t.Errorf("%s: %v, want %v", what, e, api.ErrArg)
				}
			})
		}
		asWere(t, "no space", l, x, d, func() {
			if e := l.Append(nil, 2, text(5, 1)); e != api.ErrArg {
				t.Errorf("no space: %v", e)
			}
		})
		add(t, l, x, 2, text(38, 2))
		loaded(t, d, l.Where(), text(300, 1), text(38, 2))
	}
}

// P8.2: a record of MaxRecord bytes is taken, and the greatest boot; also a boot that is below the one ahead.
func TestAppendLimits(t *testing.T) {
	d, x := fresh(t, 39)
	l := log.New(d)
	add(t, l, x, top, text(api.MaxRecord, 1))
	add(t, l, x, 0, text(1, 2))
	if w := l.Where(); w.Len != 305 || len(w.Segs) != 39 {
		t.Errorf("Len %d, %d segments", w.Len, len(w.Segs))
	}
	loaded(t, d, l.Where(), text(api.MaxRecord, 1), text(1, 2))
}

// P8.2: ErrFull just where the sectors do not fit; then all is as it was, and a lesser record is taken.
func TestAppendFull(t *testing.T) {
	for free := range 4 {
		for ahead := range 9 {
			for n := 1; n <= 36; n++ {
				d, x := fresh(t, 8)
				x.Claim(0)
				l := log.New(d)
				for i := range ahead {
					add(t, l, x, 1, text(38, byte(i)))
				}
				for x.Free() > free {
					x.Take()
				}
				room := 8*free + (8-ahead)%8
				if n <= room {
					add(t, l, x, 1, text(54*n-16, 9))
					continue
				}
				asWere(t, fmt.Sprint(n, " sectors"), l, x, d, func() {
					if e := l.Append(x, 1, text(max(1, 54*(n-1)-15), 9)); e != api.ErrFull {
						t.Fatalf("%d free, %d ahead, %d sectors: %v", free, ahead, n, e)
					}
				})
				if room > 0 {
					add(t, l, x, 1, text(54*room-16, 8))
					if x.Free() != 0 {
						t.Fatalf("%d free, %d ahead: %d are left", free, ahead, x.Free())
					}
				}
			}
		}
	}
}

// P8.2: ErrFull is ahead of the disk's errors.
func TestAppendFullOfDead(t *testing.T) {
	d, _ := fresh(t, 4)
	d.Fuse(0)
	d.Flush()
	l := log.New(d)
	x := space.New(0)
	if e := l.Append(x, 1, text(5, 5)); e != api.ErrFull {
		t.Errorf("no segment, dead: %v", e)
	}
	if e := l.Append(x, -1, text(5, 5)); e != api.ErrArg {
		t.Errorf("boot -1, no segment, dead: %v", e)
	}
	x = space.New(4)
	if e := l.Append(x, 1, text(5, 5)); e != api.ErrDead || x.Free() != 4 {
		t.Errorf("dead: %v, %d free", e, x.Free())
	}
	lies(t, l, super.Log{})
}

// P8.2: a disk that dies at any of the writes: its error; the log and x are as they were.
func TestAppendDies(t *testing.T) {
	for n := range 20 {
		for ahead := range 8 {
			d, x := fresh(t, 5)
			x.Claim(1)
			l := log.New(d)
			for i := range ahead {
				add(t, l, x, 1, text(9, byte(i)))
			}
			w, y := l.Where(), x.Copy()
			ops := d.Ops()
			d.Fuse(n)
			if e := l.Append(x, 2, text(54*20-16, 3)); e != api.ErrDead {
				t.Fatalf("dies at %d: %v", n, e)
			}
			lies(t, l, w)
			sameSpace(t, fmt.Sprint("dies at ", n), x, y)
			if d.Ops()-ops != n {
				t.Errorf("%d writes, want %d", d.Ops()-ops, n)
			}
			if e := l.Append(x, 2, text(1, 1)); e != api.ErrDead {
				t.Errorf("dead: %v", e)
			}
		}
	}
}

// P8.2: a segment that the disk has not: its ErrArg, and nothing is written at all.
func TestAppendBeyondDisk(t *testing.T) {
	d, _ := fresh(t, 2)
	for _, claim := range [][]int{nil, {0}, {1}, {0, 1}} {
		x := space.New(50)
		for _, seg := range claim {
			x.Claim(seg)
		}
		l := log.New(d)
		asWere(t, "beyond", l, x, d, func() {
			if e := l.Append(x, 1, text(54*17-16, 1)); e != api.ErrArg {
				t.Errorf("%v claimed: %v", claim, e)
			}
		})
		if len(claim) < 2 {
			add(t, l, x, 1, text(54*8-16, 1))
			loaded(t, d, l.Where(), text(54*8-16, 1))
		}
	}
}

// P8.2: the least free segments are taken as need be, and no more; Where tells them; nothing is flushed.
func TestAppendTakes(t *testing.T) {
	d, x := fresh(t, 12)
	for _, seg := range []int{0, 3, 4, 8} {
		x.Claim(seg)
	}
	free := []int{1, 2, 5, 6, 7, 9, 10, 11}
	was := all(t, d)
	l := log.New(d)
	var records [][]byte
	place := 0
	var last uint32
	for i, n := range []int{1, 6, 1, 1, 7, 8, 16, 9, 1, 1} {
		b := text(54*n-16-i, byte(i))
		ops := d.Ops()
		add(t, l, x, i, b)
		place += n
		last = sum(last, b)
		records = append(records, b)
		segs := free[:(place+7)/8]
		lies(t, l, super.Log{Segs: segs, Len: place, Last: last})
		if x.Free() != 8-len(segs) {
			t.Errorf("%d sectors: %d free", place, x.Free())
		}
		if d.Ops()-ops != n {
			t.Errorf("%d Writes and Flushes for %d sectors", d.Ops()-ops, n)
		}
		loaded(t, d, l.Where(), records...)
	}
	if !sameLists(all(t, d.Crash(nil)), was) {
		t.Error("something was flushed")
	}
}

// P8.2: segments that a loaded log has and does not use yet are used first.
func TestAppendSpareSegments(t *testing.T) {
	d, x := fresh(t, 6)
	for _, seg := range []int{5, 1, 3} {
		x.Claim(seg)
	}
	l := loaded(t, d, super.Log{Segs: []int{5, 1, 3}})
	full := space.New(0)
	add(t, l, full, 1, text(54*3-16, 1))
	add(t, l, full, 1, text(54*15-16, 2))
	lies(t, l, super.Log{Segs: []int{5, 1, 3}, Len: 18, Last: l.Where().Last})
	add(t, l, x, 1, text(54*7-16, 3))
	lies(t, l, super.Log{Segs: []int{5, 1, 3, 0}, Len: 25, Last: l.Where().Last})
	loaded(t, d, l.Where(), text(54*3-16, 1), text(54*15-16, 2), text(54*7-16, 3))
}

// P8.2: Give frees all segments; the log is as a new one.
func TestGive(t *testing.T) {
	d, x := fresh(t, 6)
	x.Claim(2)
	other, l := log.New(d), log.New(d)
	add(t, other, x, 1, text(500, 1))
	add(t, l, x, 1, text(900, 2))
	ops := d.Ops()
	l.Give(x)
	lies(t, l, super.Log{})
	if x.Free() != 3 || d.Ops() != ops {
		t.Errorf("%d free, %d ops", x.Free(), d.Ops()-ops)
	}
	more(t, l, 0)
	loaded(t, d, other.Where(), text(500, 1))
	l.Give(x) // once more: nothing
	if x.Free() != 3 {
		t.Errorf("%d free", x.Free())
	}
	add(t, l, x, 0, text(5, 5))
	lies(t, l, super.Log{Segs: []int{3}, Len: 1, Last: sum(0, text(5, 5))})
	loaded(t, d, l.Where(), text(5, 5))
	// also of a log that was loaded, with segments that hold nothing yet
	y := space.New(6)
	for seg := range 6 {
		y.Claim(seg)
	}
	loaded(t, d, super.Log{Segs: []int{5, 0}}).Give(y)
	for _, want := range []int{0, 5} {
		if seg, ok := y.Take(); seg != want || !ok {
			t.Errorf("Take: %d, %v, want %d", seg, ok, want)
		}
	}
	// without a space nothing is given
	w := l.Where()
	l.Give(nil)
	lies(t, l, w)
}

// R7: a nil log; a log of no disk.
func TestNil(t *testing.T) {
	x := space.New(2)
	if log.New(nil) != nil {
		t.Error("a log of no disk")
	}
	for _, l := range []*log.Log{nil, log.New(nil)} {
		if e := l.Append(x, 0, []byte{1}); e != api.ErrArg {
			t.Errorf("Append: %v", e)
		}
		lies(t, l, super.Log{})
		if l.Where().Segs != nil || l.More(0) != nil {
			t.Error("a nil log has something")
		}
		l.Give(x)
		l.Give(nil)
	}
	if x.Free() != 2 {
		t.Errorf("%d free", x.Free())
	}
	var zero log.Log // R1
	zero.Append(x, 0, []byte{1})
	zero.More(0)
	zero.Give(x)
	if x.Free() != 2 {
		t.Errorf("%d free behind a log without a disk", x.Free())
	}
}

// R2: nothing beside an error, also where some records were found ahead of it; nothing found is nil or empty.
func TestZeroAnswers(t *testing.T) {
	s := someLog(t)
	s.d.Spoil(at(s.segs, s.places[4]), 20, []byte{0, 1, 2})
	refused(t, "the last record", s.d, s.upTo(5), api.ErrCorrupt)
	w := s.upTo(4)
	w.Last++
	refused(t, "another last behind four records", s.d, w, api.ErrCorrupt)
	l := loaded(t, s.d, s.upTo(4), s.records[:4]...)
	if r := l.More(0); len(r) != 0 {
		t.Errorf("More: %s", told(r))
	}
}

// spoil writes over a list of numbers and its spare room.
func spoil(l []int) {
	l = l[:cap(l)]
	for i := range l {
		l[i] = 95 - i
	}
}

// R4: Load and Where: what is handed in is not changed, not kept; what is answered is new.
func TestMemoryOfSegments(t *testing.T) {
	s := someLog(t)
	in := []int{7, 2, 0, 1, 3, 7, 7, 7, 7}
	was := slices.Clone(in)
	w := s.upTo(5)
	w.Segs = in[1:5]
	l, m := loaded(t, s.d, w, s.records...), loaded(t, s.d, w, s.records...)
	x := space.New(5)
	for _, seg := range s.segs {
		x.Claim(seg)
	}
	add(t, l, x, 300, text(54*20-16, 1))
	if !slices.Equal(in, was) {
		t.Errorf("segments that were handed in are changed: %v", in)
	}
	spoil(in)
	want := l.Where()
	if !slices.Equal(want.Segs, []int{2, 0, 1, 3, 4}) || !slices.Equal(m.Where().Segs, []int{2, 0, 1, 3}) {
		t.Errorf("segments are kept: %v, %v", want.Segs, m.Where().Segs)
	}
	got := l.Where()
	spoil(got.Segs)
	lies(t, l, want)
	l.Give(x)
	if !slices.Equal(want.Segs, []int{2, 0, 1, 3, 4}) || x.Free() != 5 {
		t.Errorf("behind Give: %v, %d free", want.Segs, x.Free())
	}
	a := log.New(s.d)
	for range 40 {
		held := a.Where()
		copied := slices.Clone(held.Segs)
		add(t, a, x, 0, text(30, 1))
		if !slices.Equal(held.Segs, copied) {
			t.Fatal("Append changes what Where has told")
		}
		full := held.Segs[:cap(held.Segs)]
		ahead := slices.Clone(full)
		if x.Free() > 0 {
			add(t, a, x, 0, text(54*8-16, 1))
		}
		if !slices.Equal(full, ahead) {
			t.Fatal("Append writes into the spare room of what Where has told")
		}
		if x.Free() == 0 {
			break
		}
	}
}

// scribble writes over records, their spare room and the list's.
func scribble(l [][]byte) {
	for _, b := range l {
		b = b[:cap(b)]
		for i := range b {
			b[i] ^= 0x5A
		}
	}
	l = l[:cap(l)]
	for i := range l {
		l[i] = nil
	}
}

// R4: the records that Load and More answer are new memory, no two alike.
func TestMemoryOfRecords(t *testing.T) {
	s := someLog(t)
	for _, hand := range []func(r [][]byte){
		scribble,
		func(r [][]byte) {
			var l [][]byte
			for _, b := range r {
				l = append(l, slices.Clone(b))
				c := b[len(b):cap(b)]
				for i := range c {
					c[i] = 0xEE
				}
			}
			if !sameLists(l, r) {
				t.Error("the spare room of one record is another's")
			}
		},
	} {
		l, r, _ := log.Load(s.d, s.upTo(3))
		hand(r)
		hand(l.More(0))
		lies(t, l, s.upTo(5))
		l = loaded(t, s.d, s.upTo(3), s.records[:3]...)
		more(t, l, 0, s.records[3:]...)
	}
}

// R4: Append neither changes nor keeps the record.
func TestMemoryOfAppend(t *testing.T) {
	d, x := fresh(t, 3)
	l := log.New(d)
	whole := bytes.Repeat([]byte{200}, 400)
	b := whole[5:105]
	was := slices.Clone(whole)
	add(t, l, x, 1, b)
	l.Append(x, -1, b)
	l.Append(space.New(0), 1, whole[:390])
	if !bytes.Equal(whole, was) {
		t.Error("Append has changed what it was given, or what stands beside it")
	}
	clear(whole)
	loaded(t, d, l.Where(), was[5:105])
}

// P8.2: a log that is loaded goes on as the one that it was, at each of its records.
func TestLoadedGoesOn(t *testing.T) {
	r := rand.New(rand.NewSource(82))
	a, x := fresh(t, 40)
	b, y := fresh(t, 40)
	l, m := log.New(a), log.New(b)
	var records [][]byte
	for i := range 60 {
		rec := text(1+r.Intn(500), byte(i))
		boot := r.Intn(9)
		if e, f := l.Append(x, boot, rec), m.Append(y, boot, rec); e != f {
			t.Fatalf("%v and %v", e, f)
		} else if e == api.OK {
			records = append(records, rec)
		}
		lies(t, l, m.Where())
		l = loaded(t, a, l.Where(), records...)
		if !sameLists(all(t, a), all(t, b)) {
			t.Fatal("other bytes")
		}
		sameSpace(t, "goes on", x, y)
	}
}

// P8.2: logs on one disk, appended to by turns, never lie over each other, whatever is given back between.
func TestLogsByTurns(t *testing.T) {
	r := rand.New(rand.NewSource(83))
	for range 30 {
		d, x := fresh(t, 1+r.Intn(20))
		logs := []*log.Log{log.New(d), log.New(d), log.New(d)}
		records := make([][][]byte, 3)
		for step := range 150 {
			i := r.Intn(3)
			if r.Intn(30) == 0 {
				logs[i].Give(x)
				records[i] = nil
			}
			b := text(1+r.Intn(400), byte(step))
			if e := logs[i].Append(x, step, b); e == api.OK {
				records[i] = append(records[i], b)
			} else if e != api.ErrFull {
				t.Fatal(e)
			}
			used := 0
			for k, l := range logs {
				loaded(t, d, l.Where(), records[k]...)
				used += len(l.Where().Segs)
			}
			if used+x.Free() != space.Segs(d.Sectors()) {
				t.Fatalf("%d used, %d free", used, x.Free())
			}
		}
	}
}
