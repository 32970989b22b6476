package body_test

import (
	"fmt"
	"math"
	"math/big"
	"math/rand"
	"slices"
	"strings"
	"testing"

	"treering/api"
	"treering/body"
	"treering/chunk"
)

const greatest = 1 << 62

// part is one as Write takes them: its Off says nothing.
func part(n, id, at int) body.Part { return body.Part{Off: -77, Len: n, Chunk: id, At: at} }

// at is one that lies in a body.
func at(off int64, n, id, from int) body.Part {
	return body.Part{Off: off, Len: n, Chunk: id, At: from}
}

func list(size int64, l ...body.Part) body.Body { return body.Body{Size: size, Parts: l} }

// text tells a body, whether its list is nil or empty.
func text(b body.Body) string { return fmt.Sprint(b.Size, b.Parts) }

func wantBody(t *testing.T, what string, got body.Body, e api.Errno, want body.Body) {
	t.Helper()
	if e != api.OK || text(got) != text(want) {
		t.Errorf("%s = %s, %v, want %s", what, text(got), e, text(want))
	}
}

func wantError(t *testing.T, what string, got body.Body, e, want api.Errno) {
	t.Helper()
	if e != want || text(got) != text(body.Body{}) {
		t.Errorf("%s = %s, %v, want none, %v", what, text(got), e, want)
	}
}

func wantMay(t *testing.T, want bool, b body.Body) {
	t.Helper()
	if got := body.May(b); got != want {
		t.Errorf("May(%s) = %v, want %v", text(b), got, want)
	}
}

func wantRead(t *testing.T, b body.Body, c *chunk.Chunks, off int64, n int, want string, e api.Errno) {
	t.Helper()
	if got, f := body.Read(b, c, off, n); string(got) != want || f != e {
		t.Errorf("Read(%s, %d, %d) = %q, %v, want %q, %v", text(b), off, n, got, f, want, e)
	}
}

// letters has chunk 1, 26 letters, and chunk 2, ten digits.
func letters() *chunk.Chunks {
	c := chunk.New()
	c.Set(1, []byte("abcdefghijklmnopqrstuvwxyz"))
	c.Set(2, []byte("0123456789"))
	return c
}

func TestExample(t *testing.T) {
	b, e := body.Write(body.Body{}, 5, []body.Part{part(3, 1, 0)})
	wantBody(t, "Write", b, e, list(8, at(5, 3, 1, 0)))
	wantRead(t, b, letters(), 0, 8, "\x00\x00\x00\x00\x00abc", api.OK)
}

func TestMayAtTheEdges(t *testing.T) {
	const most = api.MaxSize
	for _, b := range []body.Body{
		{}, {Size: most}, {Size: 1, Parts: []body.Part{}},
		list(1, at(0, 1, 1, 0)),
		list(64, at(0, 64, greatest, 0)),
		list(most, at(most-1, 1, 1, 63)),
		list(most, at(0, 64, 1, 0), at(most-64, 64, 1, 0)),
		list(9, at(0, 3, 1, 0), at(3, 3, 1, 3), at(8, 1, 1, 0)),
		list(9, at(1, 3, 7, 0), at(4, 3, 7, 0)),
	} {
		wantMay(t, true, b)
	}
	for _, b := range []body.Body{
		{Size: -1}, {Size: math.MinInt64}, {Size: most + 1}, {Size: math.MaxInt64},
		list(0, at(0, 1, 1, 0)),
		list(8, at(8, 1, 1, 0)),
		list(8, at(7, 2, 1, 0)),
		list(-1, at(-2, 1, 1, 0)),
		list(9, at(-1, 1, 1, 0)),
		list(9, at(-1, 3, 1, 0)),
		list(9, at(math.MinInt64, 1, 1, 0)),
		list(9, at(math.MaxInt64, 1, 1, 0)),
		list(9, at(math.MaxInt64, 64, 1, 0)),
		list(most+1, at(most, 1, 1, 0)),
		list(most, at(most, 1, 1, 0)),
		list(9, at(0, 3, 1, 0), at(2, 3, 1, 0)),
		list(9, at(0, 3, 1, 0), at(0, 3, 1, 0)),
		list(9, at(3, 3, 1, 0), at(0, 3, 1, 0)),
		list(9, at(3, 1, 1, 0), at(0, 1, 1, 0), at(4, 1, 1, 0)),
		list(9, at(0, 1, 1, 0), at(4, 2, 1, 0), at(5, 2, 1, 0)),
	} {
		wantMay(t, false, b)
	}
}

// wrong are parts that are no piece, each for one cause.
func wrong() []body.Part {
	return []body.Part{
		part(0, 1, 0), part(-1, 1, 0), part(65, 1, 0), part(math.MaxInt, 1, 0), part(math.MinInt, 1, 0),
		part(1, 0, 0), part(1, -1, 0), part(1, greatest+1, 0), part(1, math.MaxInt, 0), part(1, math.MinInt, 0),
		part(1, 1, -1), part(1, 1, math.MinInt), part(1, 1, 64), part(1, 1, math.MaxInt), part(2, 1, 63),
		part(64, 1, 1), part(64, 1, math.MaxInt-63), part(math.MaxInt, 1, 1), part(math.MinInt, 1, math.MaxInt),
	}
}

func TestMayOfEachWrongPart(t *testing.T) {
	good := at(0, 64, 1, 0)
	for _, p := range wrong() {
		p.Off = 500
		wantMay(t, false, list(1000, p))
		wantMay(t, false, list(1000, good, p))
		q := at(700, 1, 1, 0)
		wantMay(t, false, list(1000, p, q))
		wantMay(t, false, list(1000, good, p, q))
	}
}

// sum is a and b together, without a bound.
func sum(a int64, b int) *big.Int { return new(big.Int).Add(big.NewInt(a), big.NewInt(int64(b))) }

// within tells whether n is from least to most.
func within(n *big.Int, least, most int64) bool {
	return n.Cmp(big.NewInt(least)) >= 0 && n.Cmp(big.NewInt(most)) <= 0
}

// mayByHand is the promise once more, in numbers without a bound.
func mayByHand(b body.Body) bool {
	if !within(big.NewInt(b.Size), 0, api.MaxSize) {
		return false
	}
	for i, p := range b.Parts {
		if p.Len < 1 || p.Len > 64 || p.Chunk < 1 || p.Chunk > greatest || p.At < 0 {
			return false
		}
		if !within(sum(int64(p.At), p.Len), 0, 64) || p.Off < 0 || !within(sum(p.Off, p.Len), 0, b.Size) {
			return false
		}
		for _, q := range b.Parts[:i] { // each ahead, not the last alone
			if sum(q.Off, q.Len).Cmp(big.NewInt(p.Off)) > 0 {
				return false
			}
		}
	}
	return true
}

func TestMayOfOnePart(t *testing.T) {
	const m = api.MaxSize
	sizes := []int64{math.MinInt64, -1, 0, 1, 64, 65, m - 1, m, m + 1, math.MaxInt64}
	offs := []int64{math.MinInt64, -65, -1, 0, 1, 2, 64, m - 65, m - 64, m - 1, m, math.MaxInt64 - 63, math.MaxInt64}
	lens := []int{math.MinInt, -1, 0, 1, 2, 63, 64, 65, math.MaxInt}
	ids := []int{math.MinInt, -1, 0, 1, 2, greatest, greatest + 1, math.MaxInt}
	ats := []int{math.MinInt, -1, 0, 1, 2, 62, 63, 64, math.MaxInt - 63, math.MaxInt}
	for _, size := range sizes {
		for _, off := range offs {
			for _, n := range lens {
				for _, id := range ids {
					for _, from := range ats {
						b := list(size, at(off, n, id, from))
						wantMay(t, mayByHand(b), b)
					}
				}
			}
		}
	}
}

func TestMayOfDrawnParts(t *testing.T) {
	r := rand.New(rand.NewSource(1))
	good := 0
	for range 60000 {
		b := body.Body{Size: r.Int63n(14)}
		off := int64(0)
		for range r.Intn(4) {
			off += r.Int63n(4)
			if r.Intn(12) == 0 {
				off -= 3
			}
			b.Parts = append(b.Parts, at(off, 1+r.Intn(3), 1+r.Intn(9), r.Intn(9)))
			off += int64(1 + r.Intn(3))
		}
		want := mayByHand(b)
		if want && len(b.Parts) > 1 {
			good++
		}
		wantMay(t, want, b)
	}
	if good < 1000 {
		t.Errorf("only %d bodies of two parts or three may be", good)
	}
}

func TestWriteLaysPartsOneBehindAnother(t *testing.T) {
	got, e := body.Write(body.Body{}, 0, []body.Part{part(3, 1, 0), part(64, 2, 0), part(1, 1, 5)})
	wantBody(t, "Write at 0", got, e, list(68, at(0, 3, 1, 0), at(3, 64, 2, 0), at(67, 1, 1, 5)))
	got, e = body.Write(list(100), 10, []body.Part{part(5, 1, 0), part(5, 1, 5)})
	wantBody(t, "Write within", got, e, list(100, at(10, 5, 1, 0), at(15, 5, 1, 5)))
	got, e = body.Write(list(12), 10, []body.Part{part(5, 1, 0)})
	wantBody(t, "Write over the end", got, e, list(15, at(10, 5, 1, 0)))
	got, e = body.Write(list(10, at(0, 10, 1, 0)), 10, []body.Part{part(5, 2, 0)})
	wantBody(t, "Write at the end", got, e, list(15, at(0, 10, 1, 0), at(10, 5, 2, 0)))
	got, e = body.Write(list(10, at(0, 10, 1, 0)), 90, []body.Part{part(5, 2, 0)})
	wantBody(t, "Write beyond the end", got, e, list(95, at(0, 10, 1, 0), at(90, 5, 2, 0)))
	got, e = body.Write(list(20, at(10, 10, 1, 0)), 5, []body.Part{part(5, 2, 0)})
	wantBody(t, "Write up to a part", got, e, list(20, at(5, 5, 2, 0), at(10, 10, 1, 0)))
}

func TestWriteCutsWhatWasThere(t *testing.T) {
	b := list(30, at(0, 10, 1, 2), at(10, 10, 2, 0), at(25, 5, 3, 40))
	for _, x := range []struct {
		off  int64
		n    int
		want body.Body
	}{
		{3, 4, list(30, at(0, 3, 1, 2), at(3, 4, 9, 1), at(7, 3, 1, 9), at(10, 10, 2, 0), at(25, 5, 3, 40))},
		{0, 4, list(30, at(0, 4, 9, 1), at(4, 6, 1, 6), at(10, 10, 2, 0), at(25, 5, 3, 40))},
		{6, 4, list(30, at(0, 6, 1, 2), at(6, 4, 9, 1), at(10, 10, 2, 0), at(25, 5, 3, 40))},
		{6, 8, list(30, at(0, 6, 1, 2), at(6, 8, 9, 1), at(14, 6, 2, 4), at(25, 5, 3, 40))},
		{0, 10, list(30, at(0, 10, 9, 1), at(10, 10, 2, 0), at(25, 5, 3, 40))},
		{10, 10, list(30, at(0, 10, 1, 2), at(10, 10, 9, 1), at(25, 5, 3, 40))},
		{9, 12, list(30, at(0, 9, 1, 2), at(9, 12, 9, 1), at(25, 5, 3, 40))},
		{20, 5, list(30, at(0, 10, 1, 2), at(10, 10, 2, 0), at(20, 5, 9, 1), at(25, 5, 3, 40))},
		{21, 3, list(30, at(0, 10, 1, 2), at(10, 10, 2, 0), at(21, 3, 9, 1), at(25, 5, 3, 40))},
		{21, 5, list(30, at(0, 10, 1, 2), at(10, 10, 2, 0), at(21, 5, 9, 1), at(26, 4, 3, 41))},
		{29, 1, list(30, at(0, 10, 1, 2), at(10, 10, 2, 0), at(25, 4, 3, 40), at(29, 1, 9, 1))},
		{29, 2, list(31, at(0, 10, 1, 2), at(10, 10, 2, 0), at(25, 4, 3, 40), at(29, 2, 9, 1))},
		{30, 1, list(31, at(0, 10, 1, 2), at(10, 10, 2, 0), at(25, 5, 3, 40), at(30, 1, 9, 1))},
		{5, 24, list(30, at(0, 5, 1, 2), at(5, 24, 9, 1), at(29, 1, 3, 44))},
		{0, 30, list(30, at(0, 30, 9, 1))},
		{0, 40, list(40, at(0, 40, 9, 1))},
	} {
		got, e := body.Write(b, x.off, []body.Part{part(x.n, 9, 1)})
		wantBody(t, fmt.Sprint("Write of ", x.n, " at ", x.off), got, e, x.want)
	}
}

// The same bytes again are a part of their own: what was written is kept as it was written.
func TestWriteJoinsNothing(t *testing.T) {
	b := list(10, at(0, 5, 1, 0), at(5, 5, 1, 5))
	got, e := body.Write(b, 3, []body.Part{part(4, 1, 3)})
	wantBody(t, "Write", got, e, list(10, at(0, 3, 1, 0), at(3, 4, 1, 3), at(7, 3, 1, 7)))
}

func TestWriteDoesNotLookAtOff(t *testing.T) {
	for _, off := range []int64{math.MinInt64, -1, 0, 7, api.MaxSize + 1, math.MaxInt64} {
		got, e := body.Write(list(9), 4, []body.Part{at(off, 2, 1, 0), at(off, 2, 2, 0)})
		wantBody(t, fmt.Sprint("Write with Off ", off), got, e, list(9, at(4, 2, 1, 0), at(6, 2, 2, 0)))
	}
}

func TestWriteOfNoParts(t *testing.T) {
	b := list(20, at(2, 10, 1, 3), at(15, 5, 2, 0))
	for _, off := range []int64{0, 2, 5, 12, 13, 20, 21, 99, api.MaxSize} {
		got, e := body.Write(b, off, nil)
		wantBody(t, fmt.Sprint("Write of nil at ", off), got, e, b)
		got, e = body.Write(b, off, []body.Part{})
		wantBody(t, fmt.Sprint("Write of an empty list at ", off), got, e, b)
		got, e = body.Write(body.Body{}, off, nil)
		wantBody(t, fmt.Sprint("Write of nil in nothing at ", off), got, e, body.Body{})
	}
}

func TestWriteOfManyParts(t *testing.T) {
	var l, want []body.Part
	off := int64(1000)
	for i := range 5000 {
		p := part(1+i%64, 1+i, 0)
		l = append(l, p)
		want = append(want, at(off, p.Len, p.Chunk, p.At))
		off += int64(p.Len)
	}
	b, e := body.Write(body.Body{}, 1000, l)
	wantBody(t, "Write of 5000 parts", b, e, list(off, want...))
}

// bad are bodies that may not be.
func bad() []body.Body {
	l := []body.Body{{Size: -1}, {Size: api.MaxSize + 1}, list(3, at(0, 9, 1, 0)), list(9, at(3, 1, 1, 0), at(3, 1, 1, 0))}
	for _, p := range wrong() {
		p.Off = 0
		l = append(l, list(1000, p))
	}
	return l
}

func TestWriteRefusesArguments(t *testing.T) {
	good := part(1, 1, 0)
	for _, b := range bad() {
		for _, off := range []int64{0, -1, math.MaxInt64} {
			for _, l := range [][]body.Part{nil, {}, {good}, {part(0, 0, -1)}} {
				got, e := body.Write(b, off, l)
				wantError(t, fmt.Sprint("Write in ", text(b)), got, e, api.ErrArg)
			}
		}
	}
	b := list(20, at(2, 10, 1, 3))
	for _, p := range wrong() {
		for _, off := range []int64{0, 4, -1, api.MaxSize, api.MaxSize + 1, math.MinInt64, math.MaxInt64} {
			for _, l := range [][]body.Part{{p}, {p, good}, {good, p}, {good, p, good}} {
				got, e := body.Write(b, off, l)
				wantError(t, fmt.Sprint("Write of ", l, " at ", off), got, e, api.ErrArg)
			}
		}
	}
}

func TestWriteRefusesSizes(t *testing.T) {
	const m = api.MaxSize
	two := []body.Part{part(64, 1, 0), part(36, 1, 0)}
	for _, b := range []body.Body{{}, list(20, at(2, 10, 1, 3)), list(m, at(m-9, 9, 1, 0))} {
		for _, off := range []int64{-1, -100, math.MinInt64, m + 1, math.MaxInt64, math.MaxInt64 - 50} {
			got, e := body.Write(b, off, two)
			wantError(t, fmt.Sprint("Write at ", off), got, e, api.ErrSize)
			got, e = body.Write(b, off, nil)
			wantError(t, fmt.Sprint("Write of nothing at ", off), got, e, api.ErrSize)
		}
		for _, off := range []int64{m - 99, m - 64, m - 1, m} {
			got, e := body.Write(b, off, two)
			wantError(t, fmt.Sprint("Write at ", off), got, e, api.ErrSize)
		}
	}
	b, e := body.Write(list(m, at(m-101, 64, 7, 0), at(m-9, 9, 1, 0)), m-100, two)
	wantBody(t, "Write up to the greatest size", b, e, list(m, at(m-101, 1, 7, 0), at(m-100, 64, 1, 0), at(m-36, 36, 1, 0)))
	b, e = body.Write(body.Body{}, m, nil)
	wantBody(t, "Write of nothing at the greatest size", b, e, body.Body{})
}

func TestTrunc(t *testing.T) {
	b := list(30, at(2, 8, 1, 2), at(10, 10, 2, 0), at(25, 5, 3, 40))
	for _, want := range []body.Body{
		list(0),
		list(1),
		list(2),
		list(3, at(2, 1, 1, 2)),
		list(9, at(2, 7, 1, 2)),
		list(10, at(2, 8, 1, 2)),
		list(11, at(2, 8, 1, 2), at(10, 1, 2, 0)),
		list(20, at(2, 8, 1, 2), at(10, 10, 2, 0)),
		list(22, at(2, 8, 1, 2), at(10, 10, 2, 0)),
		list(25, at(2, 8, 1, 2), at(10, 10, 2, 0)),
		list(29, at(2, 8, 1, 2), at(10, 10, 2, 0), at(25, 4, 3, 40)),
		b,
		list(31, b.Parts...),
		list(api.MaxSize, b.Parts...),
	} {
		got, e := body.Trunc(b, want.Size)
		wantBody(t, fmt.Sprint("Trunc to ", want.Size), got, e, want)
	}
}

func TestTruncLeavesNoughts(t *testing.T) {
	c := letters()
	b := list(10, at(0, 10, 1, 0))
	b, e := body.Trunc(b, 4)
	wantBody(t, "Trunc to 4", b, e, list(4, at(0, 4, 1, 0)))
	b, e = body.Trunc(b, 8)
	wantBody(t, "Trunc to 8", b, e, list(8, at(0, 4, 1, 0)))
	wantRead(t, b, c, 0, 99, "abcd\x00\x00\x00\x00", api.OK)
}

func TestTruncRefuses(t *testing.T) {
	b := list(20, at(2, 10, 1, 3))
	sizes := []int64{-1, math.MinInt64, api.MaxSize + 1, math.MaxInt64}
	for _, size := range sizes {
		got, e := body.Trunc(b, size)
		wantError(t, fmt.Sprint("Trunc to ", size), got, e, api.ErrSize)
	}
	for _, b := range bad() {
		for _, size := range append(sizes, 0, 5) {
			got, e := body.Trunc(b, size)
			wantError(t, fmt.Sprint("Trunc of ", text(b), " to ", size), got, e, api.ErrArg)
		}
	}
}

func TestRead(t *testing.T) {
	c := letters()
	b := list(16, at(2, 4, 1, 22), at(6, 3, 2, 0), at(12, 2, 1, 0))
	all := "\x00\x00wxyz012\x00\x00\x00ab\x00\x00"
	for off := range len(all) + 3 {
		for n := range len(all) + 3 {
			rest := all[min(off, len(all)):]
			wantRead(t, b, c, int64(off), n, rest[:min(n, len(rest))], api.OK)
		}
	}
}

func TestReadAtTheEdges(t *testing.T) {
	const m = api.MaxSize
	c := letters()
	b := list(m, at(0, 3, 1, 0), at(m-3, 3, 1, 23))
	wantRead(t, b, c, m-3, 3, "xyz", api.OK)
	wantRead(t, b, c, m-4, api.MaxRead, "\x00xyz", api.OK)
	wantRead(t, b, c, m-1, 1, "z", api.OK)
	wantRead(t, b, c, 0, 0, "", api.OK)
	wantRead(t, b, c, 0, api.MaxRead, "abc"+strings.Repeat("\x00", api.MaxRead-3), api.OK)
	for _, off := range []int64{m, m + 1, math.MaxInt64 - api.MaxRead, math.MaxInt64 - 1, math.MaxInt64} {
		for _, n := range []int{0, 1, 2, api.MaxRead} {
			wantRead(t, b, c, off, n, "", api.OK)
			wantRead(t, body.Body{}, c, off, n, "", api.OK)
		}
	}
	wantRead(t, body.Body{}, c, 0, api.MaxRead, "", api.OK)
}

func TestReadOfManyParts(t *testing.T) {
	c := letters()
	var l []body.Part
	var all string
	for i := 0; len(all) < 10000; i++ {
		from := i % 26
		n := 1 + i*7%(26-from)
		l = append(l, part(n, 1, from))
		all += "abcdefghijklmnopqrstuvwxyz"[from : from+n]
	}
	b, e := body.Write(body.Body{}, 0, l)
	if e != api.OK {
		t.Fatal(e)
	}
	for off := 0; off < len(all); off += 331 {
		wantRead(t, b, c, int64(off), api.MaxRead, all[off:min(off+api.MaxRead, len(all))], api.OK)
	}
}

func TestReadRefuses(t *testing.T) {
	c := letters()
	b := list(5, at(0, 5, 1, 0))
	for _, off := range []int64{-1, math.MinInt64} {
		for _, n := range []int{0, 1, 5, -1, math.MaxInt} {
			wantRead(t, b, c, off, n, "", api.ErrArg)
		}
	}
	for _, n := range []int{-1, math.MinInt, api.MaxRead + 1, math.MaxInt} {
		for _, off := range []int64{0, 4, 5, 99, math.MaxInt64} {
			wantRead(t, b, c, off, n, "", api.ErrArg)
			wantRead(t, body.Body{}, c, off, n, "", api.ErrArg)
		}
	}
	for _, b := range bad() {
		for _, off := range []int64{0, 5, math.MaxInt64} {
			wantRead(t, b, c, off, 0, "", api.ErrArg)
			wantRead(t, b, c, off, 3, "", api.ErrArg)
		}
	}
	wantRead(t, b, nil, 0, 5, "", api.ErrArg)
	wantRead(t, b, nil, 9, 0, "", api.ErrArg)
	wantRead(t, b, c, 0, 5, "abcde", api.OK)
}

func TestReadOfLostChunks(t *testing.T) {
	c := letters() // chunk 2 ends behind its tenth byte; there is no chunk 3
	b := list(40, at(0, 3, 1, 0), at(3, 4, 3, 0), at(7, 3, 1, 24), at(10, 4, 2, 8), at(20, 2, 2, 10), at(30, 3, 2, 60))
	for _, x := range []struct {
		off  int64
		n    int
		want string
	}{
		{0, 3, "abc"}, {3, 0, ""}, {4, 0, ""}, {7, 2, "yz"}, {9, 0, ""}, {10, 2, "89"}, {11, 1, "9"},
		{14, 6, "\x00\x00\x00\x00\x00\x00"}, {22, 8, "\x00\x00\x00\x00\x00\x00\x00\x00"}, {33, 99, "\x00\x00\x00\x00\x00\x00\x00"},
	} {
		wantRead(t, b, c, x.off, x.n, x.want, api.OK)
	}
	for _, x := range []struct {
		off int64
		n   int
	}{
		{0, 4}, {3, 1}, {6, 1}, {2, 9}, {5, 1}, {6, 3}, {7, 3}, {9, 1}, {10, 3}, {12, 1}, {13, 1}, {13, 7},
		{14, 7}, {20, 1}, {21, 1}, {30, 1}, {32, 99}, {0, 40},
	} {
		wantRead(t, b, c, x.off, x.n, "", api.ErrCorrupt)
	}
	wantRead(t, b, chunk.New(), 0, 1, "", api.ErrCorrupt)
	wantRead(t, b, &chunk.Chunks{}, 14, 2, "\x00\x00", api.OK)
	c.Drop(1)
	wantRead(t, b, c, 0, 3, "", api.ErrCorrupt)
	if got := fmt.Sprint(c.IDs(), c.Next(), c.Size()); got != "[2] 3 10" {
		t.Errorf("behind Reads the chunks are %s", got)
	}
}

func TestUses(t *testing.T) {
	for _, x := range []struct {
		b    body.Body
		want []int
	}{
		{body.Body{}, nil},
		{body.Body{Size: 9, Parts: []body.Part{}}, nil},
		{list(9, at(0, 1, 5, 0)), []int{5}},
		{list(9, at(0, 1, 5, 0), at(1, 1, 5, 1)), []int{5}},
		{list(9, at(0, 1, 5, 0), at(1, 1, 3, 1), at(2, 1, 5, 0), at(3, 1, 4, 0), at(4, 1, 3, 0)), []int{3, 4, 5}},
		{list(9, at(0, 1, greatest, 0), at(1, 1, 10, 1), at(2, 1, 9, 0)), []int{9, 10, greatest}},
		{list(-1, at(0, 9, 7, 0), at(0, 9, -7, 0), at(0, 9, 7, 0)), []int{-7, 7}}, // no sentence refuses it
	} {
		if got := body.Uses(x.b); !slices.Equal(got, x.want) {
			t.Errorf("Uses(%s) = %v, want %v", text(x.b), got, x.want)
		}
	}
}

// roomy answers the parts with spare room behind them, which is filled, and a list of all.
func roomy(l ...body.Part) (parts, all []body.Part) {
	all = slices.Clone(l)
	for i := range 8 {
		all = append(all, at(int64(-i), -i, -i, -i))
	}
	return all[:len(l)], slices.Clone(all)
}

// spoil turns all that is in a list and its spare room.
func spoil[T any](l []T, with T) {
	for i := range l[:cap(l)] {
		l[:cap(l)][i] = with
	}
}

// R4: nothing handed in is changed or kept, and each answer is memory of its own.
func TestBodiesAreValues(t *testing.T) {
	parts, all := roomy(at(0, 10, 1, 0), at(10, 10, 2, 0), at(20, 4, 1, 3), at(30, 10, 1, 5))
	b := body.Body{Size: 40, Parts: parts}
	l, more := roomy(part(3, 9, 0), part(4, 8, 0))
	look := func(what string) {
		t.Helper()
		if got := parts[:len(all)]; !slices.Equal(got, all) || b.Size != 40 {
			t.Errorf("%s: the parts handed in are %v", what, got)
		}
		if got := l[:len(more)]; !slices.Equal(got, more) {
			t.Errorf("%s: the list handed in is %v", what, got)
		}
	}
	stain := part(66, 66, 66)
	for off := int64(0); off < 45; off++ {
		for _, m := range [][]body.Part{nil, l[:0], l[:1], l} {
			got, _ := body.Write(b, off, m)
			look("Write")
			want := text(got)
			again, _ := body.Write(b, off, m)
			spoil(again.Parts, stain)
			look("a spoiled answer of Write")
			if text(got) != want {
				t.Errorf("two answers of Write share memory")
			}
		}
		got, _ := body.Trunc(b, off)
		look("Trunc")
		want := text(got)
		again, _ := body.Trunc(b, off)
		spoil(again.Parts, stain)
		look("a spoiled answer of Trunc")
		if text(got) != want {
			t.Errorf("two answers of Trunc share memory")
		}
	}
	c := letters()
	got, _ := body.Read(b, c, 0, 40)
	spoil(got, '!')
	spoil(body.Uses(b), 66)
	look("Read and Uses")
	wantRead(t, b, c, 20, 10, "defg\x00\x00\x00\x00\x00\x00", api.OK)
}

func TestRefusedCallsChangeNothing(t *testing.T) {
	parts, all := roomy(at(0, 10, 1, 0), at(10, 10, 2, 0))
	l, more := roomy(part(3, 9, 0), part(0, 8, 0))
	for _, b := range []body.Body{{Size: 40, Parts: parts}, {Size: 9, Parts: parts}} {
		body.Write(b, 3, l)
		body.Write(b, -1, l[:1])
		body.Write(b, api.MaxSize, l[:1])
		body.Trunc(b, -1)
		body.Read(b, chunk.New(), 0, 5)
		body.Read(b, nil, 0, 5)
	}
	if !slices.Equal(parts[:len(all)], all) || !slices.Equal(l[:len(more)], more) {
		t.Errorf("refused calls changed %v, %v", parts[:len(all)], l[:len(more)])
	}
}

// R1: calls end without a panic, whatever they are given.
func TestAnyArguments(t *testing.T) {
	r := rand.New(rand.NewSource(2))
	values := []int{math.MinInt, math.MinInt + 1, -65, -64, -1, 0, 1, 2, 63, 64, 65, 4096, 4097, api.MaxSize,
		api.MaxSize + 1, greatest, greatest + 1, math.MaxInt - 64, math.MaxInt - 1, math.MaxInt}
	draw := func() int { return values[r.Intn(len(values))] }
	parts := func() []body.Part {
		var l []body.Part
		for range r.Intn(4) {
			l = append(l, at(int64(draw()), draw(), draw(), draw()))
		}
		return l
	}
	c := letters()
	for range 100000 {
		b, l := list(int64(draw()), parts()...), parts()
		off, n := int64(draw()), draw()
		if got, want := body.May(b), mayByHand(b); got != want {
			t.Fatalf("May(%s) = %v, want %v", text(b), got, want)
		}
		if x, e := body.Write(b, off, l); e != api.OK && text(x) != text(body.Body{}) {
			t.Fatalf("Write(%s, %d, %v) = %s, %v", text(b), off, l, text(x), e)
		}
		if x, e := body.Trunc(b, off); e != api.OK && text(x) != text(body.Body{}) {
			t.Fatalf("Trunc(%s, %d) = %s, %v", text(b), off, text(x), e)
		}
		if x, e := body.Read(b, c, off, n); e != api.OK && len(x) > 0 {
			t.Fatalf("Read(%s, %d, %d) = %q, %v", text(b), off, n, x, e)
		}
		body.Uses(b)
	}
}
