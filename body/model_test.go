package body_test

import (
	"fmt"
	"math/rand"
	"slices"
	"testing"

	"treering/api"
	"treering/body"
	"treering/chunk"
)

// width is how many bytes of a file a model looks at.
const width = 500

// byteOf is one byte of a file: which byte of which chunk, and with which part it was written.
type byteOf struct{ chunk, at, written int }

// model is a file, byte by byte. Ahead of base it is noughts.
type model struct {
	base, size int64
	bytes      [width]byteOf // chunk 0: a nought
	count      int
}

func (m *model) write(off int64, l []body.Part) {
	i := int(off - m.base)
	for _, p := range l {
		m.count++
		for k := range p.Len {
			m.bytes[i] = byteOf{p.Chunk, p.At + k, m.count}
			i++
		}
		m.size = max(m.size, m.base+int64(i))
	}
}

func (m *model) trunc(size int64) {
	for i := range m.bytes {
		if m.base+int64(i) >= size {
			m.bytes[i] = byteOf{}
		}
	}
	m.size = size
}

// body is the file with one part for all bytes side by side that were written as one.
func (m *model) body() body.Body {
	b := body.Body{Size: m.size}
	ahead := byteOf{}
	for i, x := range m.bytes {
		switch {
		case x.chunk == 0:
		case x.written == ahead.written:
			b.Parts[len(b.Parts)-1].Len++
		default:
			b.Parts = append(b.Parts, at(m.base+int64(i), 1, x.chunk, x.at))
		}
		ahead = x
	}
	return b
}

func (m *model) uses() []int {
	var ids []int
	for id := 1; id <= 9; id++ {
		if slices.ContainsFunc(m.bytes[:], func(x byteOf) bool { return x.chunk == id }) {
			ids = append(ids, id)
		}
	}
	return ids
}

// read answers the bytes from the i-th on, one by one out of pieces.
func (m *model) read(pieces map[int]string, i, n int) (string, api.Errno) {
	var s []byte
	for ; n > 0 && m.base+int64(i) < m.size; n-- {
		x := m.bytes[i]
		switch {
		case x.chunk == 0:
			s = append(s, 0)
		case x.at >= len(pieces[x.chunk]):
			return "", api.ErrCorrupt
		default:
			s = append(s, pieces[x.chunk][x.at])
		}
		i++
	}
	return string(s), api.OK
}

// drawnPieces are some chunks, a few of them short or not there at all.
func drawnPieces(r *rand.Rand) (*chunk.Chunks, map[int]string) {
	c, pieces := chunk.New(), map[int]string{}
	for id := 1; id <= 9; id++ {
		n := 64
		if r.Intn(4) == 0 {
			n = r.Intn(65)
		}
		b := make([]byte, n)
		for i := range b {
			b[i] = byte(1 + r.Intn(255))
		}
		if c.Set(id, b) == api.OK {
			pieces[id] = string(b)
		}
	}
	return c, pieces
}

func drawnParts(r *rand.Rand) []body.Part {
	var l []body.Part
	for range r.Intn(4) {
		n := 1 + r.Intn(20)
		if r.Intn(4) == 0 {
			n = 1 + r.Intn(64)
		}
		l = append(l, body.Part{Off: r.Int63(), Len: n, Chunk: 1 + r.Intn(9), At: r.Intn(65 - n)})
	}
	return l
}

// step lets the model and the body go one step on, and answers the body behind it.
func step(t *testing.T, r *rand.Rand, m *model, b body.Body) body.Body {
	t.Helper()
	off := m.base + int64(r.Intn(width-256))
	if r.Intn(4) == 0 {
		m.trunc(off)
		got, e := body.Trunc(b, off)
		wantBody(t, fmt.Sprint("Trunc(", text(b), ", ", off, ")"), got, e, m.body())
		return got
	}
	l := drawnParts(r)
	if m.base > 0 && r.Intn(3) == 0 { // up to the last byte that may be
		off = api.MaxSize
		for _, p := range l {
			off -= int64(p.Len)
		}
	}
	m.write(off, l)
	got, e := body.Write(b, off, l)
	wantBody(t, fmt.Sprint("Write(", text(b), ", ", off, l, ")"), got, e, m.body())
	return got
}

func TestDrawnCalls(t *testing.T) {
	corrupt := 0
	for _, base := range []int64{0, api.MaxSize - width} {
		r := rand.New(rand.NewSource(3 + base))
		for range 400 {
			c, pieces := drawnPieces(r)
			m, b := &model{base: base}, body.Body{}
			for range 30 {
				if b = step(t, r, m, b); t.Failed() {
					return
				}
				wantMay(t, true, b)
				if got, want := body.Uses(b), m.uses(); !slices.Equal(got, want) {
					t.Fatalf("Uses(%s) = %v, want %v", text(b), got, want)
				}
				for range 5 {
					off, n := r.Intn(width), r.Intn(1+r.Intn(100))
					want, e := m.read(pieces, off, n)
					wantRead(t, b, c, base+int64(off), n, want, e)
					if e != api.OK {
						corrupt++
					}
				}
			}
		}
	}
	if corrupt < 1000 {
		t.Errorf("only %d Reads were corrupt", corrupt)
	}
}
