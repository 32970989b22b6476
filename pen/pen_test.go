package pen_test

import (
	"bytes"
	"encoding/binary"
	"fmt"
	"math"
	"math/big"
	"math/rand"
	"strings"
	"testing"

	"treering/pen"
)

const greatest = 1 << 62

// shift answers the byte of n that stands at place i of its Num, without its highest bit.
func shift(n, i int) byte { return byte(n >> (7 * i) & 0x7f) }

// edges are numbers on either side of each place at which a Num grows, up to 2^62.
func edges() []int {
	l := []int{0, 1, 2, 300, greatest - 1, greatest}
	for bit := 1; bit < 62; bit++ {
		l = append(l, 1<<bit-1, 1<<bit, 1<<bit+1)
	}
	return l
}

func floats() []float64 {
	l := []float64{0, math.Copysign(0, -1), 1, -1, 1.5, math.Pi, math.Inf(1), math.Inf(-1), math.NaN(),
		math.MaxFloat64, -math.MaxFloat64, math.SmallestNonzeroFloat64, -math.SmallestNonzeroFloat64}
	for _, bits := range []uint64{1, 0x0102030405060708, 0x7ff8000000000123, 0xfff8000000000123, 0x7ff0000000000001, 0xfff7ffffffffffff, math.MaxUint64} {
		l = append(l, math.Float64frombits(bits))
	}
	return l
}

func texts() []string {
	l := []string{"", "a", "ab", "\x00", "\xff\xfe", "näh", "\x80\x80\x00"}
	for _, n := range []int{126, 127, 128, 129, 16383, 16384, 70000} {
		l = append(l, strings.Repeat("x", n-1)+"y")
	}
	return l
}

func wrote(f func(p *pen.Pen)) []byte {
	p := &pen.Pen{}
	f(p)
	return p.Bytes()
}

// P2.1, written

func TestNumExample(t *testing.T) {
	if b := wrote(func(p *pen.Pen) { p.Num(300) }); !bytes.Equal(b, []byte{0xac, 0x02}) {
		t.Fatalf("Num(300): %x, want ac02", b)
	}
}

func TestNumIsSevenBitsAByte(t *testing.T) {
	for _, k := range []struct {
		n    int
		want []byte
	}{
		{0, []byte{0}},
		{1, []byte{1}},
		{127, []byte{127}},
		{128, []byte{0x80, 1}},
		{16383, []byte{0xff, 0x7f}},
		{16384, []byte{0x80, 0x80, 1}},
		{greatest, []byte{0x80, 0x80, 0x80, 0x80, 0x80, 0x80, 0x80, 0x80, 0x40}},
		{math.MaxInt, []byte{0xff, 0xff, 0xff, 0xff, 0xff, 0xff, 0xff, 0xff, 0x7f}},
	} {
		if b := wrote(func(p *pen.Pen) { p.Num(k.n) }); !bytes.Equal(b, k.want) {
			t.Errorf("Num(%d): %x, want %x", k.n, b, k.want)
		}
	}
	for _, n := range append(edges(), greatest+1, math.MaxInt-1, math.MaxInt) {
		want := binary.AppendUvarint(nil, uint64(n))
		if b := wrote(func(p *pen.Pen) { p.Num(n) }); !bytes.Equal(b, want) {
			t.Errorf("Num(%d): %x, want %x", n, b, want)
		}
	}
}

func TestNumBelow0IsWrittenAs0(t *testing.T) {
	for _, n := range []int{-1, -2, -127, -128, -300, -greatest, math.MinInt + 1, math.MinInt} {
		if b := wrote(func(p *pen.Pen) { p.Num(n) }); !bytes.Equal(b, []byte{0}) {
			t.Errorf("Num(%d): %x, want 00", n, b)
		}
	}
}

func TestByteIsWritten(t *testing.T) {
	for x := range 256 {
		if b := wrote(func(p *pen.Pen) { p.Byte(byte(x)) }); !bytes.Equal(b, []byte{byte(x)}) {
			t.Fatalf("Byte(%d): %v", x, b)
		}
	}
}

func TestFloatIsItsBitsTheLowestByteFirst(t *testing.T) {
	for _, k := range []struct {
		f    float64
		want []byte
	}{
		{0, []byte{0, 0, 0, 0, 0, 0, 0, 0}},
		{math.Copysign(0, -1), []byte{0, 0, 0, 0, 0, 0, 0, 0x80}},
		{1.5, []byte{0, 0, 0, 0, 0, 0, 0xf8, 0x3f}},
		{math.Inf(1), []byte{0, 0, 0, 0, 0, 0, 0xf0, 0x7f}},
		{math.Inf(-1), []byte{0, 0, 0, 0, 0, 0, 0xf0, 0xff}},
		{math.Float64frombits(0x7ff8000000000123), []byte{0x23, 1, 0, 0, 0, 0, 0xf8, 0x7f}},
		{math.Float64frombits(0x0102030405060708), []byte{8, 7, 6, 5, 4, 3, 2, 1}},
	} {
		if b := wrote(func(p *pen.Pen) { p.Float(k.f) }); !bytes.Equal(b, k.want) {
			t.Errorf("Float(%v): %x, want %x", k.f, b, k.want)
		}
	}
	for _, f := range floats() {
		want := binary.LittleEndian.AppendUint64(nil, math.Float64bits(f))
		if b := wrote(func(p *pen.Pen) { p.Float(f) }); !bytes.Equal(b, want) {
			t.Errorf("Float(%v): %x, want %x", f, b, want)
		}
	}
}

func TestTextIsItsLengthAndItsBytes(t *testing.T) {
	if b := wrote(func(p *pen.Pen) { p.Text("ab") }); !bytes.Equal(b, []byte{2, 'a', 'b'}) {
		t.Errorf("Text(ab): %v", b)
	}
	if b := wrote(func(p *pen.Pen) { p.Text("") }); !bytes.Equal(b, []byte{0}) {
		t.Errorf("Text of nothing: %v", b)
	}
	for _, s := range texts() {
		want := append(binary.AppendUvarint(nil, uint64(len(s))), s...)
		if b := wrote(func(p *pen.Pen) { p.Text(s) }); !bytes.Equal(b, want) {
			t.Errorf("Text of %d bytes: %d bytes, want %d", len(s), len(b), len(want))
		}
	}
}

func TestWhatIsWrittenStandsInItsOrder(t *testing.T) {
	b := wrote(func(p *pen.Pen) {
		p.Text("ab")
		p.Byte(0xff)
		p.Num(300)
		p.Num(-300)
		p.Float(1.5)
		p.Byte(7)
	})
	want := []byte{2, 'a', 'b', 0xff, 0xac, 2, 0, 0, 0, 0, 0, 0, 0, 0xf8, 0x3f, 7}
	if !bytes.Equal(b, want) {
		t.Fatalf("%x, want %x", b, want)
	}
}

func TestNothingWritten(t *testing.T) {
	if b := (&pen.Pen{}).Bytes(); len(b) != 0 {
		t.Fatalf("a new Pen has written %v", b)
	}
}

func TestBytesAreNewMemoryAndThePenGoesOn(t *testing.T) {
	p := &pen.Pen{}
	for _, s := range []string{"a", "bc", "def", "ghij"} {
		p.Text(s)
	}
	want := "\x01a\x02bc\x03def\x04ghij"
	first := p.Bytes()
	second := p.Bytes()
	p.Byte('!')
	third := p.Bytes()
	for _, l := range [][]byte{first, third} {
		l = l[:cap(l)]
		for i := range l {
			l[i] = 0xee
		}
	}
	p.Byte('?')
	if string(second) != want {
		t.Fatalf("an answer is changed by another or by the Pen: %q", second)
	}
	if b := p.Bytes(); string(b) != want+"!?" {
		t.Fatalf("the Pen is changed by its answers: %q", b)
	}
}

func TestTwoPensAreNotOne(t *testing.T) {
	p, q := &pen.Pen{}, &pen.Pen{}
	for i := range 40 {
		p.Num(i)
		q.Text("z")
	}
	if len(p.Bytes()) != 40 || !bytes.Equal(q.Bytes(), bytes.Repeat([]byte{1, 'z'}, 40)) {
		t.Fatal("what one Pen writes is seen by another")
	}
}

func TestNilPenWritesNothing(t *testing.T) {
	var p *pen.Pen
	p.Byte(1)
	p.Num(300)
	p.Num(-1)
	p.Float(1.5)
	p.Text("x")
	p.Text("")
	if b := p.Bytes(); len(b) != 0 {
		t.Fatalf("a nil Pen has written %v", b)
	}
}

// P2.1, read

func TestNumIsReadAgain(t *testing.T) {
	for _, n := range append(edges(), -1, math.MinInt) {
		b := wrote(func(p *pen.Pen) { p.Num(n); p.Byte(9) })
		e := pen.New(b)
		if m := e.Num(); m != max(n, 0) || e.Bad() || e.Left() != 1 || e.Byte() != 9 {
			t.Errorf("Num(%d) is read as %d, bad %v", n, m, e.Bad())
		}
	}
}

func TestFloatIsReadAgainBitByBit(t *testing.T) {
	for _, f := range floats() {
		e := pen.New(wrote(func(p *pen.Pen) { p.Float(f); p.Byte(9) }))
		g := e.Float()
		if math.Float64bits(g) != math.Float64bits(f) || e.Bad() || e.Left() != 1 || e.Byte() != 9 {
			t.Errorf("Float(%x) is read as %x, bad %v", math.Float64bits(f), math.Float64bits(g), e.Bad())
		}
	}
}

func TestTextIsReadAgain(t *testing.T) {
	for _, s := range texts() {
		e := pen.New(wrote(func(p *pen.Pen) { p.Text(s); p.Byte(9) }))
		if g := e.Text(); g != s || e.Bad() || e.Left() != 1 || e.Byte() != 9 {
			t.Errorf("a Text of %d bytes is read as one of %d, bad %v", len(s), len(g), e.Bad())
		}
	}
}

func TestByteIsReadAgain(t *testing.T) {
	all := make([]byte, 256)
	for i := range all {
		all[i] = byte(i)
	}
	e := pen.New(all)
	for i := range all {
		if e.Left() != 256-i {
			t.Fatalf("Left: %d, want %d", e.Left(), 256-i)
		}
		if b := e.Byte(); int(b) != i {
			t.Fatalf("byte %d is read as %d", i, b)
		}
	}
	if e.Left() != 0 || e.Bad() {
		t.Fatal("all is read, and something is left or bad")
	}
}

// item is one thing that is written and read.
type item struct {
	kind int
	b    byte
	n    int
	bits uint64
	s    string
}

func someItems(r *rand.Rand) []item {
	e, f, x := edges(), floats(), texts()
	l := make([]item, r.Intn(40))
	for i := range l {
		l[i] = item{kind: r.Intn(4), b: byte(r.Intn(256)), n: e[r.Intn(len(e))], bits: math.Float64bits(f[r.Intn(len(f))]), s: x[r.Intn(10)]}
		if r.Intn(2) == 0 {
			l[i].bits, l[i].n = r.Uint64(), r.Intn(1<<62)>>r.Intn(62)
		}
	}
	return l
}

func (x item) write(p *pen.Pen) {
	switch x.kind {
	case 0:
		p.Byte(x.b)
	case 1:
		p.Num(x.n)
	case 2:
		p.Float(math.Float64frombits(x.bits))
	default:
		p.Text(x.s)
	}
}

func (x item) isNext(e *pen.Eye) bool {
	switch x.kind {
	case 0:
		return e.Byte() == x.b
	case 1:
		return e.Num() == x.n
	case 2:
		return math.Float64bits(e.Float()) == x.bits
	default:
		return e.Text() == x.s
	}
}

func TestWhatWasWrittenIsReadInItsOrder(t *testing.T) {
	for seed := range 300 {
		l := someItems(rand.New(rand.NewSource(int64(seed))))
		p := &pen.Pen{}
		ends := make([]int, len(l))
		for i, x := range l {
			x.write(p)
			ends[i] = len(p.Bytes())
		}
		b := p.Bytes()
		e := pen.New(b)
		for i, x := range l {
			if !x.isNext(e) || e.Bad() {
				t.Fatalf("seed %d: item %d, %+v, is read as something else", seed, i, x)
			}
			if e.Left() != len(b)-ends[i] {
				t.Fatalf("seed %d: behind item %d Left is %d, want %d", seed, i, e.Left(), len(b)-ends[i])
			}
		}
	}
}

func TestEyeNeitherChangesNorKeepsTheList(t *testing.T) {
	b := append(make([]byte, 0, 64), 0xac, 2, 2, 'a', 'b', 0, 0, 0, 0, 0, 0, 0xf8, 0x3f, 5)
	was := bytes.Clone(b[:cap(b)])
	for _, late := range []bool{false, true} {
		e := pen.New(b)
		if late {
			for i := range b {
				b[i] = 0xff
			}
		}
		if n, s, f, x := e.Num(), e.Text(), e.Float(), e.Byte(); n != 300 || s != "ab" || f != 1.5 || x != 5 || e.Bad() {
			t.Fatalf("read as %d %q %v %d (the list changed behind New: %v)", n, s, f, x, late)
		}
		if !late && !bytes.Equal(b[:cap(b)], was) {
			t.Fatal("the list that was handed in is changed")
		}
	}
}

func TestLeftAndBadChangeNothing(t *testing.T) {
	e := pen.New([]byte{1, 2})
	for range 3 {
		if e.Left() != 2 || e.Bad() {
			t.Fatal("asking alone changes the Eye")
		}
	}
	if e.Byte() != 1 || e.Left() != 1 || e.Byte() != 2 || e.Left() != 0 || e.Bad() {
		t.Fatal("all is read, and something is left or bad")
	}
}

func TestNothingToRead(t *testing.T) {
	for _, e := range []*pen.Eye{pen.New(nil), pen.New([]byte{}), new(pen.Eye)} {
		if e == nil || e.Bad() || e.Left() != 0 {
			t.Fatal("an Eye of nothing is bad before anything is read")
		}
	}
}

// P2.1, Bad

// sure fails the test unless e is Bad, and all that is read from it is nought.
func sure(t *testing.T, e *pen.Eye, what string) {
	t.Helper()
	for range 2 {
		if !e.Bad() || e.Left() != 0 {
			t.Errorf("%s: bad %v, left %d", what, e.Bad(), e.Left())
		}
		b, n, f, s := e.Byte(), e.Num(), e.Float(), e.Text()
		if b != 0 || n != 0 || math.Float64bits(f) != 0 || s != "" {
			t.Errorf("%s: from then on %d %d %v %q", what, b, n, f, s)
		}
	}
}

func TestNotThereWhole(t *testing.T) {
	for _, k := range []struct {
		what string
		b    []byte
		read func(e *pen.Eye) any
		zero any
	}{
		{"Byte", []byte{7}, func(e *pen.Eye) any { return e.Byte() }, byte(0)},
		{"Num", []byte{0x81, 0x82, 0x83, 4}, func(e *pen.Eye) any { return e.Num() }, 0},
		{"Num of nine bytes", wrote(func(p *pen.Pen) { p.Num(greatest) }), func(e *pen.Eye) any { return e.Num() }, 0},
		{"Float", []byte{1, 2, 3, 4, 5, 6, 7, 8}, func(e *pen.Eye) any { return math.Float64bits(e.Float()) }, uint64(0)},
		{"Text", []byte("\x05hello"), func(e *pen.Eye) any { return e.Text() }, ""},
		{"long Text", wrote(func(p *pen.Pen) { p.Text(strings.Repeat("q", 300)) }), func(e *pen.Eye) any { return e.Text() }, ""},
	} {
		for n := range k.b {
			for _, ahead := range []string{"", "x"} {
				e := pen.New(append([]byte(ahead), k.b[:n]...))
				for range ahead {
					e.Byte()
				}
				what := fmt.Sprintf("%s, of which %d bytes are there", k.what, n)
				if got := k.read(e); got != k.zero {
					t.Errorf("%s: %v", what, got)
				}
				sure(t, e, what)
			}
		}
		if e := pen.New(k.b); k.read(e) == k.zero || e.Bad() {
			t.Errorf("%s: bad though it is whole", k.what)
		}
	}
}

// long answers a Num in n bytes, whatever it needs; what does not fit is lost.
func long(value, n int) []byte {
	b := make([]byte, n)
	for i := range b {
		b[i] = shift(value, i) | 0x80
	}
	b[n-1] &= 0x7f
	return b
}

func TestNumLongerThanNeedBe(t *testing.T) {
	for _, n := range edges() {
		need := len(binary.AppendUvarint(nil, uint64(n)))
		for size := need + 1; size <= need+10; size++ {
			e := pen.New(append(long(n, size), 1, 2, 3))
			what := fmt.Sprintf("%d in %d bytes", n, size)
			if m := e.Num(); m != 0 {
				t.Errorf("%s is read as %d", what, m)
			}
			sure(t, e, what)
		}
	}
	if e := pen.New([]byte{0, 0}); e.Num() != 0 || e.Bad() || e.Left() != 1 || e.Num() != 0 || e.Bad() || e.Left() != 0 {
		t.Error("a 0 alone is bad")
	}
}

func TestNumAboveTheGreatest(t *testing.T) {
	top := new(big.Int).Lsh(big.NewInt(1), 62)
	for bit := range 90 {
		n := new(big.Int).Add(top, new(big.Int).Lsh(big.NewInt(1), uint(bit)))
		var b []byte
		for left := n; left.Sign() != 0; left = new(big.Int).Rsh(left, 7) {
			b = append(b, byte(left.Uint64()&0x7f)|0x80)
		}
		b[len(b)-1] &= 0x7f
		e := pen.New(append(b, 1, 2, 3))
		if m := e.Num(); m != 0 {
			t.Errorf("2^62 + 2^%d is read as %d", bit, m)
		}
		sure(t, e, fmt.Sprintf("2^62 + 2^%d", bit))
	}
	for _, n := range []int{greatest + 1, math.MaxInt} {
		e := pen.New(wrote(func(p *pen.Pen) { p.Num(n) }))
		if m := e.Num(); m != 0 {
			t.Errorf("%d is read as %d", n, m)
		}
		sure(t, e, fmt.Sprint(n))
	}
	e := pen.New([]byte{0x80, 0x80, 0x80, 0x80, 0x80, 0x80, 0x80, 0x80, 0x40, 5})
	if e.Num() != greatest || e.Bad() || e.Left() != 1 || e.Byte() != 5 {
		t.Error("2^62 itself is none too great")
	}
}

func TestTextLongerThanWhatIsLeft(t *testing.T) {
	for _, size := range []int{4, 5, 127, 128, 1 << 31, 1 << 40, greatest - 1, greatest} {
		e := pen.New(append(binary.AppendUvarint(nil, uint64(size)), "abc"...))
		if s := e.Text(); s != "" {
			t.Errorf("a Text of %d of which 3 are left is read as %q", size, s)
		}
		sure(t, e, fmt.Sprintf("a Text of %d of which 3 are left", size))
	}
	if e := pen.New([]byte("\x03abc")); e.Text() != "abc" || e.Bad() || e.Left() != 0 {
		t.Error("a Text as long as what is left is bad")
	}
}

func TestTextWhoseLengthIsBad(t *testing.T) {
	for _, b := range [][]byte{
		{0x80, 0, 'a', 'b'},
		{0x82, 0, 'a', 'b'},
		{0x81, 0x80, 0x80, 0x80, 0x80, 0x80, 0x80, 0x80, 0x40, 'a'},
		{0x82, 0x80, 0x80, 0x80, 0x80, 0x80, 0x80, 0x80, 0x80, 1, 'a', 'b', 'c'},
		{0xff, 0xff, 0xff, 0xff, 0xff, 0xff, 0xff, 0xff, 0xff, 0xff},
	} {
		e := pen.New(b)
		if s := e.Text(); s != "" {
			t.Errorf("the Text of %x is %q", b, s)
		}
		sure(t, e, fmt.Sprintf("the Text of %x", b))
	}
}

func TestNilEyeIsBad(t *testing.T) {
	var e *pen.Eye
	sure(t, e, "a nil Eye")
}

// reader is the document's words about an Eye, with numbers of any size.
type reader struct {
	left []byte
	bad  bool
}

func (r *reader) fall() { r.left, r.bad = nil, true }

func (r *reader) take(n int) []byte {
	if len(r.left) < n {
		r.fall()
		return nil
	}
	b := r.left[:n]
	r.left = r.left[n:]
	return b
}

func (r *reader) num() int {
	end := -1
	for i, b := range r.left {
		if b < 0x80 {
			end = i
			break
		}
	}
	if end < 0 {
		r.fall()
		return 0
	}
	b := r.take(end + 1)
	n := new(big.Int)
	for i := end; i >= 0; i-- {
		n.Add(n.Lsh(n, 7), big.NewInt(int64(b[i]&0x7f)))
	}
	if end > 0 && b[end] == 0 || n.Cmp(big.NewInt(greatest)) > 0 {
		r.fall()
		return 0
	}
	return int(n.Int64())
}

func (r *reader) read(kind int) string {
	switch kind {
	case 0:
		var b [1]byte
		copy(b[:], r.take(1))
		return fmt.Sprint(b[0])
	case 1:
		return fmt.Sprint(r.num())
	case 2:
		var b [8]byte
		copy(b[:], r.take(8))
		return fmt.Sprintf("%x", binary.LittleEndian.Uint64(b[:]))
	default:
		n := r.num()
		if n > len(r.left) {
			r.fall()
			n = 0
		}
		return fmt.Sprintf("%q", r.take(n))
	}
}

func read(e *pen.Eye, kind int) string {
	switch kind {
	case 0:
		return fmt.Sprint(e.Byte())
	case 1:
		return fmt.Sprint(e.Num())
	case 2:
		return fmt.Sprintf("%x", math.Float64bits(e.Float()))
	default:
		return fmt.Sprintf("%q", e.Text())
	}
}

func compare(t *testing.T, b []byte, kinds []int) {
	t.Helper()
	e, r := pen.New(b), &reader{left: bytes.Clone(b)}
	for i, k := range kinds {
		got, want := read(e, k), r.read(k)
		if got != want || e.Bad() != r.bad || e.Left() != len(r.left) {
			t.Fatalf("%x, kinds %v, reading %d: %s bad %v left %d, want %s bad %v left %d",
				b, kinds, i, got, e.Bad(), e.Left(), want, r.bad, len(r.left))
		}
	}
}

func TestAnyBytesAreReadAsTheDocumentSays(t *testing.T) {
	for x := range 1 << 16 {
		b := []byte{byte(x), byte(x >> 8), 0}
		compare(t, b[:1+x%3], []int{1, 1, 0})
		compare(t, b, []int{3, 1, 0})
	}
	r := rand.New(rand.NewSource(2))
	few := []byte{0, 1, 2, 0x3f, 0x40, 0x41, 0x7f, 0x80, 0x80, 0x80, 0x81, 0xff, 0xff}
	for range 100000 {
		b := make([]byte, r.Intn(24))
		for i := range b {
			b[i] = few[r.Intn(len(few))]
			if r.Intn(4) == 0 {
				b[i] = byte(r.Intn(256))
			}
		}
		kinds := make([]int, 1+r.Intn(6))
		for i := range kinds {
			kinds[i] = r.Intn(4)
		}
		compare(t, b, kinds)
	}
}
