package log_test

import (
	"bytes"
	"math/rand"
	"slices"
	"testing"

	"treering/api"
	"treering/disk"
	"treering/log"
	"treering/space"
	"treering/super"
)

// scene is a log on whose next sectors something of an elder boot lies, with records ahead that were flushed.
type scene struct {
	d       *disk.Disk
	x       *space.Space
	l       *log.Log
	start   super.Log // what a slot would tell: nothing of the last flushed records
	records [][]byte
}

// play makes a scene; elder are the records that lay there, behind the same ones.
func play(t *testing.T, boots [2]int, ahead int, elder ...[]byte) scene {
	t.Helper()
	d, x := fresh(t, 3)
	s := scene{d: d, x: x, l: log.New(d)}
	for i := range ahead {
		if i == 1 {
			s.start = s.l.Where()
		}
		s.records = append(s.records, text(20+i, byte(i)))
		add(t, s.l, x, boots[1], s.records[i])
	}
	d.Flush()
	was := loaded(t, d, s.l.Where(), s.records...)
	y := x.Copy()
	for _, b := range elder {
		add(t, was, y, boots[0], b)
	}
	d.Flush()
	return s
}

// power lets a record be written, power go at a write, and asks what is there.
func power(t *testing.T, s scene, boot int, b []byte, choices [][]byte) {
	t.Helper()
	flushed := s.l.Where()
	goal, next := sectors(flushed.Last, boot, flushed.Len, b)
	for k := range len(goal) + 1 {
		d := twin(s.d)
		l := loaded(t, d, flushed, s.records...)
		x := s.x.Copy()
		d.Fuse(k)
		e := l.Append(x, boot, b)
		if (e == api.OK) != (k == len(goal)) || e != api.OK && e != api.ErrDead {
			t.Fatalf("Append, %d writes: %v", k, e)
		}
		segs := flushed.Segs
		for y := s.x.Copy(); len(segs)*8 < flushed.Len+len(goal); {
			seg, _ := y.Take()
			segs = append(segs, seg)
		}
		for i, choice := range choices {
			if k < len(goal) && i%13 != k { // some of them: a write that was not done is as one that was lost, and those are tried where all were done
				continue
			}
			c := d.Crash(choice)
			whole, elder := true, true // elder: all its sectors are as they were, which may be the same record's
			for i, want := range goal {
				got, _ := c.Read(at(segs, flushed.Len+i))
				was, _ := s.d.Read(at(segs, flushed.Len+i))
				whole = whole && bytes.Equal(got, want)
				elder = elder && bytes.Equal(got, was)
			}
			start := s.start
			start.Segs = segs
			m, r, e := log.Load(c, start)
			if e != api.OK {
				t.Fatalf("%d writes, %v: Load: %v", k, choice, e)
			}
			r = append(r, m.More(boot)...)
			want := s.records
			if whole {
				want = append(slices.Clone(want), b)
			}
			if !sameLists(r, want) {
				t.Fatalf("%d writes, %v: %s, want %s", k, choice, told(r), told(want))
			}
			_, _, e = log.Load(c, super.Log{Segs: segs, Len: flushed.Len + len(goal), Last: next})
			if whole && e != api.OK || !whole && !elder && e != api.ErrCorrupt {
				t.Fatalf("%d writes, %v: Load with it: %v, whole %v", k, choice, e, whole)
			}
		}
	}
}

// ways are all that a crash can leave of one sector: lost, kept, torn anywhere.
func ways() []byte {
	l := []byte{0, 1}
	for j := range 64 {
		l = append(l, byte(4*j+3))
	}
	return l
}

// crashes are choices for so many sectors: all of them for up to two, else each in each way with those ahead and those behind kept or lost, and some by chance.
func crashes(r *rand.Rand, n int) [][]byte {
	var l [][]byte
	w := ways()
	if n <= 2 {
		for _, a := range w {
			for _, b := range w {
				l = append(l, []byte{a, b}[:n])
			}
			if n == 1 {
				l[len(l)-1] = []byte{a}
			}
		}
		return l
	}
	for i := range n {
		for _, a := range w {
			for _, rest := range [][2]byte{{0, 0}, {1, 1}, {1, 0}, {0, 1}} { // ahead of it, behind it
				c := bytes.Repeat(rest[:1], i)
				c = append(c, a)
				l = append(l, append(c, bytes.Repeat(rest[1:], n-1-i)...))
			}
		}
	}
	for range 200 {
		c := make([]byte, n)
		for i := range c {
			c[i] = []byte{0, 1, 1, 1, 1, w[r.Intn(66)]}[r.Intn(6)]
		}
		l = append(l, c)
	}
	return l
}

// P8.3: power goes at each write, each sector is kept, lost or torn anywhere.
func TestPower(t *testing.T) {
	r := rand.New(rand.NewSource(85))
	boots := [][2]int{{0, 1}, {1, 2}, {255, 256}, {1, 1 << 24}, {0x00FFFFFF, 0x01000000}, {0x01010101, 0x01010102}, {top - 1, top}}
	for _, n := range []int{1, 2, 3, 5, 10} {
		choices := crashes(r, n)
		b := text(54*n-16-n, 77)
		elders := [][][]byte{
			nil,
			{b},
			{text(len(b), 3)},
			{text(54*n, 9)},
			{text(30, 5), text(40, 6), text(10, 7), text(54*8-16, 8)},
		}
		for i, pair := range boots {
			for k, elder := range elders {
				if n == 2 && (i+k)%3 != 0 { // all pairs of tears, of a third of them
					continue
				}
				power(t, play(t, pair, (i+k)%4*2, elder...), pair[1], b, choices)
			}
		}
	}
}

// P8.3: many lives of a log, each with a boot of its own, each ended by a crash at any write.
func TestLives(t *testing.T) {
	r := rand.New(rand.NewSource(86))
	for range 150 {
		d, x := fresh(t, 6)
		l := log.New(d)
		var records [][]byte
		for boot := 1; boot < 25; boot++ {
			start := l.Where()
			safe := len(records)
			d.Fuse(r.Intn(40))
			for step := 0; !d.Dead(); step++ {
				if r.Intn(3) == 0 {
					if d.Flush() == api.OK {
						safe = len(records)
					}
					continue
				}
				b := text(1+r.Intn(200), byte(r.Intn(256)))
				switch l.Append(x, boot, b) {
				case api.OK:
					records = append(records, b)
				case api.ErrDead:
					records = append(records, b) // it may be there
				case api.ErrFull:
					d.Fuse(0)
					d.Flush()
				}
			}
			// the segments that the log was taking when it died are told, too
			start.Segs = l.Where().Segs
			if seg, ok := x.Copy().Take(); ok {
				start.Segs = append(start.Segs, seg)
			}
			choice := make([]byte, 9)
			r.Read(choice)
			d = d.Crash(choice)
			m, got, e := log.Load(d, start)
			if e != api.OK {
				t.Fatalf("boot %d: %v", boot, e)
			}
			got = append(got, m.More(boot)...)
			if len(got) < safe || len(got) > len(records) || !sameLists(got, records[:len(got)]) {
				t.Fatalf("boot %d: %d records, %d were safe, of %d", boot, len(got), safe, len(records))
			}
			// a log whose last segment is unused goes on the same; x is made anew from what the log has
			w := m.Where()
			w.Segs = w.Segs[:(w.Len+7)/8]
			x = space.New(6)
			for _, seg := range w.Segs {
				x.Claim(seg)
			}
			l = loaded(t, d, w, got...)
			records = got
			d.Flush()
			if x.Free() == 0 {
				l.Give(x)
				records = nil
			}
		}
	}
}
