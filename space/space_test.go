package space_test

import (
	"fmt"
	"math"
	"math/rand"
	"testing"

	"treering/api"
	"treering/space"
)

// model is a second way: 0 for each segment that is free, 1 for each that is taken.
type model []int

func (m model) free() int {
	n := 0
	for _, x := range m {
		n += 1 - x
	}
	return n
}

func (m model) take() (int, bool) {
	for i, x := range m {
		if x == 0 {
			m[i] = 1
			return i, true
		}
	}
	return 0, false
}

// turn brings a segment from one state to the other, if it is there and in the first.
func (m model) turn(seg, from, to int) bool {
	if seg < 0 || seg >= len(m) || m[seg] != from {
		return false
	}
	m[seg] = to
	return true
}

func (m model) claim(seg int) bool { return m.turn(seg, 0, 1) }
func (m model) give(seg int) bool  { return m.turn(seg, 1, 0) }

// fresh is a Space that must be there.
func fresh(t *testing.T, n int) *space.Space {
	t.Helper()
	s := space.New(n)
	if s == nil {
		t.Fatalf("New(%d) = nil", n)
	}
	return s
}

func takes(t *testing.T, s *space.Space, want int) {
	t.Helper()
	if seg, ok := s.Take(); seg != want || !ok {
		t.Fatalf("Take = %d, %v, want %d", seg, ok, want)
	}
}

func takesNone(t *testing.T, s *space.Space) {
	t.Helper()
	if seg, ok := s.Take(); seg != 0 || ok {
		t.Fatalf("Take = %d, %v, where none is free", seg, ok)
	}
}

func claims(t *testing.T, s *space.Space, seg int, want bool) {
	t.Helper()
	if ok := s.Claim(seg); ok != want {
		t.Fatalf("Claim(%d) = %v", seg, ok)
	}
}

func gives(t *testing.T, s *space.Space, seg int, want bool) {
	t.Helper()
	if ok := s.Give(seg); ok != want {
		t.Fatalf("Give(%d) = %v", seg, ok)
	}
}

func frees(t *testing.T, s *space.Space, want int) {
	t.Helper()
	if n := s.Free(); n != want {
		t.Fatalf("Free = %d, want %d", n, want)
	}
}

// noSegments are numbers of which a Space of n segments has none.
func noSegments(n int) []int {
	return []int{-1, -2, n, n + 1, -n - 1, api.MaxSegs, api.MaxSegs + 1, 1 << 31, 1 << 32, math.MinInt, math.MinInt + 1, math.MaxInt - 1, math.MaxInt}
}

// allOut takes all segments of one of which all n are free.
func allOut(t *testing.T, s *space.Space, n int) {
	t.Helper()
	for i := range n {
		frees(t, s, n-i)
		takes(t, s, i)
	}
	frees(t, s, 0)
	takesNone(t, s)
	frees(t, s, 0)
}

func TestNew(t *testing.T) {
	for n := range api.MaxSegs + 1 {
		allOut(t, fresh(t, n), n)
	}
	for _, n := range []int{api.MaxSegs + 1, api.MaxSegs + 2, 2 * api.MaxSegs, 256 + 5, 1<<31 + 5, 1<<32 + 5, math.MaxInt - 1, math.MaxInt} {
		allOut(t, fresh(t, n), api.MaxSegs)
	}
	for _, n := range []int{-1, -2, -api.MaxSegs, -256 + 5, -1<<32 + 5, math.MinInt, math.MinInt + 1} {
		allOut(t, fresh(t, n), 0)
	}
}

func TestNewOnesShareNothing(t *testing.T) {
	a, b := fresh(t, 3), fresh(t, 3)
	takes(t, a, 0)
	claims(t, a, 2, true)
	frees(t, b, 3)
	gives(t, b, 0, false)
	allOut(t, b, 3)
	frees(t, a, 1)
}

func TestTakeIsTheLeast(t *testing.T) {
	for _, n := range []int{1, 2, 5, 33, 64, 65, api.MaxSegs} {
		for seg := range n {
			s := fresh(t, n)
			allOut(t, s, n)
			gives(t, s, seg, true)
			takes(t, s, seg)
			takesNone(t, s)
			// Of two that were given back the lesser one is first, in whichever order they came.
			for other := range n {
				if other == seg {
					continue
				}
				gives(t, s, seg, true)
				gives(t, s, other, true)
				takes(t, s, min(seg, other))
				takes(t, s, max(seg, other))
				takesNone(t, s)
			}
		}
	}
}

func TestTakeGoesRoundClaimed(t *testing.T) {
	s := fresh(t, 6)
	for _, seg := range []int{0, 3, 5} {
		claims(t, s, seg, true)
	}
	takes(t, s, 1)
	takes(t, s, 2)
	takes(t, s, 4)
	takesNone(t, s)
}

func TestClaim(t *testing.T) {
	for _, n := range []int{0, 1, 3, 95, api.MaxSegs} {
		s := fresh(t, n)
		// From the last on: a Claim takes that one, not the least.
		for seg := n - 1; seg >= 0; seg-- {
			claims(t, s, seg, true)
			frees(t, s, seg)
			claims(t, s, seg, false)
			frees(t, s, seg)
		}
		takesNone(t, s)
	}
	s := fresh(t, 4)
	takes(t, s, 0)
	claims(t, s, 0, false)
	frees(t, s, 3)
	gives(t, s, 0, true)
	claims(t, s, 0, true)
	frees(t, s, 3)
	takes(t, s, 1)
}

func TestGive(t *testing.T) {
	for _, n := range []int{0, 1, 3, 95, api.MaxSegs} {
		s := fresh(t, n)
		for seg := range n {
			gives(t, s, seg, false)
			frees(t, s, n)
		}
		allOut(t, s, n)
		for seg := n - 1; seg >= 0; seg-- {
			gives(t, s, seg, true)
			frees(t, s, n-seg)
			gives(t, s, seg, false)
			frees(t, s, n-seg)
		}
		allOut(t, s, n)
	}
	s := fresh(t, 4)
	claims(t, s, 2, true)
	gives(t, s, 2, true)
	gives(t, s, 2, false)
	allOut(t, s, 4)
}

func TestNoSuchSegment(t *testing.T) {
	for _, n := range []int{0, 1, 3, 95, api.MaxSegs, math.MaxInt, math.MinInt} {
		s := fresh(t, n)
		n = s.Free()
		for _, seg := range noSegments(n) {
			claims(t, s, seg, false)
			frees(t, s, n)
			gives(t, s, seg, false)
			frees(t, s, n)
		}
		allOut(t, s, n)
		for _, seg := range noSegments(n) {
			gives(t, s, seg, false)
			frees(t, s, 0)
			claims(t, s, seg, false)
			frees(t, s, 0)
		}
		takesNone(t, s)
	}
}

// step does one call (0 Take, 1 Claim, 2 Give) on both, and holds what they answer against each other.
func step(t *testing.T, s *space.Space, m model, op, seg int) {
	t.Helper()
	var got, want string
	switch op {
	case 0:
		a, ok := s.Take()
		b, yes := m.take()
		got, want = fmt.Sprint("Take ", a, ok), fmt.Sprint("Take ", b, yes)
	case 1:
		got, want = fmt.Sprint("Claim ", seg, s.Claim(seg)), fmt.Sprint("Claim ", seg, m.claim(seg))
	default:
		got, want = fmt.Sprint("Give ", seg, s.Give(seg)), fmt.Sprint("Give ", seg, m.give(seg))
	}
	if got != want {
		t.Fatalf("%d segments: %s, want %s", len(m), got, want)
	}
	if s.Free() != m.free() {
		t.Fatalf("%d segments: behind %s %d are free, want %d", len(m), got, s.Free(), m.free())
	}
}

// TestEachShortRow plays all rows of five calls on few segments.
func TestEachShortRow(t *testing.T) {
	for n := range 3 {
		// Take, then a Claim and a Give of each segment and of one at both sides.
		calls := 1 + 2*(n+2)
		rows := 1
		for range 5 {
			rows *= calls
		}
		for row := range rows {
			s, m := fresh(t, n), make(model, n)
			for range 5 {
				call(t, s, m, row%calls)
				row /= calls
			}
		}
	}
}

// call does the c-th call of TestEachShortRow.
func call(t *testing.T, s *space.Space, m model, c int) {
	t.Helper()
	if c == 0 {
		step(t, s, m, 0, 0)
		return
	}
	segs := len(m) + 2
	step(t, s, m, 1+(c-1)/segs, (c-1)%segs-1)
}

func TestLongRows(t *testing.T) {
	r := rand.New(rand.NewSource(6))
	for range 200 {
		n := r.Intn(api.MaxSegs + 1)
		s, m := fresh(t, n), make(model, n)
		much := r.Intn(3)
		for range 1000 {
			op := r.Intn(3)
			if r.Intn(3) == 0 {
				op = much
			}
			step(t, s, m, op, r.Intn(n+4)-2)
			if r.Intn(20) == 0 {
				copyAside(t, r, s, m)
			}
		}
	}
}

// copyAside makes a copy and goes on with it for some steps, to see that what it was made of stays.
func copyAside(t *testing.T, r *rand.Rand, s *space.Space, m model) {
	t.Helper()
	c, own := s.Copy(), append(model{}, m...)
	for range 10 {
		step(t, c, own, r.Intn(3), r.Intn(len(m)+4)-2)
	}
	if s.Free() != m.free() {
		t.Fatalf("a copy changed what it was made of: %d free, want %d", s.Free(), m.free())
	}
}

func TestCopy(t *testing.T) {
	s := fresh(t, 5)
	takes(t, s, 0)
	claims(t, s, 3, true)
	c := s.Copy()
	if c == nil || c == s {
		t.Fatal("Copy is no other one")
	}
	frees(t, c, 3)
	// The copy goes its way, and s stays.
	takes(t, c, 1)
	gives(t, c, 3, true)
	gives(t, c, 0, true)
	frees(t, c, 4)
	frees(t, s, 3)
	gives(t, s, 1, false)
	claims(t, s, 3, false)
	claims(t, s, 0, false)
	// s goes its way, and the copy stays.
	takes(t, s, 1)
	takes(t, s, 2)
	takes(t, s, 4)
	takesNone(t, s)
	frees(t, c, 4)
	claims(t, c, 1, false)
	for _, seg := range []int{0, 2, 3, 4} {
		takes(t, c, seg)
	}
	takesNone(t, c)
	gives(t, s, 4, true)
	takesNone(t, c)
}

func TestCopyOfCopyAndOfAllSizes(t *testing.T) {
	for n := range api.MaxSegs + 1 {
		s := fresh(t, n)
		c := s.Copy()
		d := c.Copy()
		allOut(t, c, n)
		full := c.Copy()
		takesNone(t, full)
		for _, seg := range noSegments(n) {
			claims(t, d, seg, false)
		}
		allOut(t, d, n)
		allOut(t, s, n)
		if n > 0 {
			gives(t, c, n-1, true)
			takesNone(t, full)
			gives(t, full, 0, true)
			takes(t, c, n-1)
			takes(t, full, 0)
		}
	}
}

// segsOf counts segments one by one, as long as one fits.
func segsOf(sectors int) int {
	n := 0
	for at := 2 * api.Slot; n < api.MaxSegs && at+api.SegSectors <= sectors; at += api.SegSectors {
		n++
	}
	return n
}

func TestSegs(t *testing.T) {
	for sectors := -api.MaxSectors; sectors < 3*api.MaxSectors; sectors++ {
		if got, want := space.Segs(sectors), segsOf(sectors); got != want {
			t.Fatalf("Segs(%d) = %d, want %d", sectors, got, want)
		}
	}
	for _, c := range [][2]int{
		{17, 1}, // the chapter's example
		{-1, 0}, {0, 0}, {7, 0}, {8, 0}, {9, 0}, {15, 0}, {16, 1}, {23, 1}, {24, 2},
		{api.MaxSectors - 1, api.MaxSegs - 1}, {api.MaxSectors, api.MaxSegs}, {api.MaxSectors + 1, api.MaxSegs}, {api.MaxSectors + 8, api.MaxSegs},
		{math.MaxInt, api.MaxSegs}, {math.MaxInt - 1, api.MaxSegs}, {1 << 31, api.MaxSegs}, {1 << 32, api.MaxSegs}, {1<<32 + 20, api.MaxSegs},
		{math.MinInt, 0}, {math.MinInt + 1, 0}, {math.MinInt + 7, 0}, {math.MinInt + 8, 0}, {math.MinInt + 9, 0}, {-1 << 31, 0}, {-1 << 32, 0}, {-1<<32 + 20, 0},
	} {
		if got := space.Segs(c[0]); got != c[1] {
			t.Errorf("Segs(%d) = %d, want %d", c[0], got, c[1])
		}
	}
}

func TestFirst(t *testing.T) {
	for _, c := range [][2]int{{0, 8}, {1, 16}, {2, 24}, {94, 760}, {95, 768}} {
		if got := space.First(c[0]); got != c[1] {
			t.Errorf("First(%d) = %d, want %d", c[0], got, c[1])
		}
	}
	for _, seg := range append(noSegments(api.MaxSegs), 97, 776, math.MaxInt/8, math.MaxInt/8+1, math.MaxInt/4+3, math.MinInt/8, math.MinInt/8+3, math.MinInt/4+3) {
		if got := space.First(seg); got != -1 {
			t.Errorf("First(%d) = %d, want -1", seg, got)
		}
	}
}

// TestSegmentsLieApart lays the slots and all segments that Segs counts onto a disk of each size.
func TestSegmentsLieApart(t *testing.T) {
	for sectors := range api.MaxSectors + 1 {
		laid := make([]int, sectors)
		for i := range min(2*api.Slot, sectors) {
			laid[i] = 1
		}
		for seg := range space.Segs(sectors) {
			first := space.First(seg)
			for i := first; i < first+api.SegSectors; i++ {
				if i < 0 || i >= sectors {
					t.Fatalf("%d sectors: segment %d begins at %d and lies beyond them", sectors, seg, first)
				}
				if laid[i] != 0 {
					t.Fatalf("%d sectors: segment %d begins at %d and lies over what is there", sectors, seg, first)
				}
				laid[i] = 1
			}
		}
		left := 0
		for _, x := range laid {
			left += 1 - x
		}
		if left >= api.SegSectors {
			t.Fatalf("%d sectors: %d of them are left", sectors, left)
		}
	}
}

func TestNil(t *testing.T) {
	var s *space.Space
	takesNone(t, s)
	for _, seg := range append(noSegments(0), 0, 1, 95) {
		claims(t, s, seg, false)
		gives(t, s, seg, false)
	}
	frees(t, s, 0)
	if c := s.Copy(); c != nil {
		t.Errorf("Copy of nil = %v", c)
	}
}

func TestZeroValue(t *testing.T) {
	var s space.Space
	allOut(t, &s, 0)
	claims(t, &s, 0, false)
	gives(t, &s, 0, false)
	allOut(t, s.Copy(), 0)
}
