package crc_test

import (
	"bytes"
	"math/bits"
	"math/rand"
	"testing"

	"treering/crc"
)

// plain reckons Next bit by bit with the polynomial as the document writes it
// first, 0x1EDC6F41, the highest bit first: another way than the package's.
func plain(c uint32, b []byte) uint32 {
	r := bits.Reverse32(^c)
	for _, x := range b {
		r ^= uint32(bits.Reverse8(x)) << 24
		for range 8 {
			top := r >> 31
			r <<= 1
			if top == 1 {
				r ^= 0x1EDC6F41
			}
		}
	}
	return ^bits.Reverse32(r)
}

func row(n int, f func(i int) byte) []byte {
	b := make([]byte, n)
	for i := range b {
		b[i] = f(i)
	}
	return b
}

func mixed(n int, seed int64) []byte {
	r := rand.New(rand.NewSource(seed))
	return row(n, func(int) byte { return byte(r.Intn(256)) })
}

// turn answers a copy of b in which the bits of pattern are turned, its lowest
// at bit at. The lowest bit of a byte is the first, as the sum takes them.
func turn(b []byte, at int, pattern uint64) []byte {
	b = bytes.Clone(b)
	for ; pattern != 0; pattern &= pattern - 1 {
		i := at + bits.TrailingZeros64(pattern)
		b[i/8] ^= 1 << (i % 8)
	}
	return b
}

// withSum answers b with the four bytes of its sum behind it.
func withSum(b []byte) []byte {
	return append(bytes.Clone(b), crc.Bytes(crc.Sum(b))...)
}

// misfit answers how the sum behind a text is unlike the text's own; 0: it fits.
func misfit(b []byte) uint32 {
	n := len(b) - 4
	s := uint32(b[n]) | uint32(b[n+1])<<8 | uint32(b[n+2])<<16 | uint32(b[n+3])<<24
	return crc.Sum(b[:n]) ^ s
}

// bursts are patterns of 1 to 32 bits, the first and the last bit of each turned:
// none, all, every other and some of the bits between.
func bursts() []uint64 {
	r := rand.New(rand.NewSource(32))
	l := []uint64{1}
	for n := 2; n <= 32; n++ {
		ends := uint64(1) | 1<<(n-1)
		all := uint64(1)<<n - 1
		l = append(l, ends, all, ends|0xAAAAAAAA&all, ends|0x55555555&all)
		for range 8 {
			l = append(l, ends|uint64(r.Uint32())&all)
		}
	}
	return l
}

// P1.1

func TestNothing(t *testing.T) {
	for _, b := range [][]byte{nil, {}, make([]byte, 0, 9)} {
		if s := crc.Sum(b); s != 0 {
			t.Errorf("Sum of nothing: %#x, want 0", s)
		}
		for _, c := range []uint32{0, 1, 0x80000000, 0x12345678, 0xE3069283, 0xFFFFFFFF} {
			if s := crc.Next(c, b); s != c {
				t.Errorf("Next(%#x, nothing): %#x, want %#x", c, s, c)
			}
		}
	}
}

func TestKnownSums(t *testing.T) {
	for _, k := range []struct {
		b    []byte
		want uint32
	}{
		{[]byte("123456789"), 0xE3069283},
		{[]byte("a"), 0xC1D04330},
		{row(32, func(int) byte { return 0 }), 0x8A9136AA},
		{row(32, func(int) byte { return 255 }), 0x62A8AB43},
		{row(32, func(i int) byte { return byte(i) }), 0x46DD794E},
		{row(32, func(i int) byte { return byte(31 - i) }), 0x113FDB5C},
	} {
		if s := crc.Sum(k.b); s != k.want {
			t.Errorf("Sum(%q): %#x, want %#x", k.b, s, k.want)
		}
		if s := crc.Next(0, k.b); s != k.want {
			t.Errorf("Next(0, %q): %#x, want %#x", k.b, s, k.want)
		}
	}
}

func TestSumIsThatOfThePolynomial(t *testing.T) {
	for x := range 256 {
		b := []byte{byte(x)}
		if s, want := crc.Sum(b), plain(0, b); s != want {
			t.Fatalf("Sum(%v): %#x, want %#x", b, s, want)
		}
	}
	for n := range 600 {
		b := mixed(n, int64(n))
		if s, want := crc.Sum(b), plain(0, b); s != want {
			t.Fatalf("Sum of %d bytes: %#x, want %#x", n, s, want)
		}
	}
	b := mixed(1<<20, 20)
	if s, want := crc.Sum(b), plain(0, b); s != want {
		t.Fatalf("Sum of %d bytes: %#x, want %#x", len(b), s, want)
	}
}

func TestNextFromAnySum(t *testing.T) {
	for bit := range 33 {
		c := uint32(1<<bit - 1)
		for n := range 40 {
			b := mixed(n, int64(n))
			if s, want := crc.Next(c, b), plain(c, b); s != want {
				t.Fatalf("Next(%#x, %d bytes): %#x, want %#x", c, n, s, want)
			}
		}
	}
}

func TestNextGoesOnWhereverTheTextIsCut(t *testing.T) {
	b := mixed(70, 7)
	whole := crc.Sum(b)
	for i := range len(b) + 1 {
		if s := crc.Next(crc.Sum(b[:i]), b[i:]); s != whole {
			t.Fatalf("cut at %d: %#x, want %#x", i, s, whole)
		}
		for j := i; j <= len(b); j++ {
			if s := crc.Next(crc.Next(crc.Sum(b[:i]), b[i:j]), b[j:]); s != whole {
				t.Fatalf("cut at %d and %d: %#x, want %#x", i, j, s, whole)
			}
		}
	}
	one := uint32(0)
	for i := range b {
		one = crc.Next(one, b[i:i+1])
	}
	if one != whole {
		t.Fatalf("byte by byte: %#x, want %#x", one, whole)
	}
}

func TestBytes(t *testing.T) {
	for _, k := range []struct {
		c    uint32
		want []byte
	}{
		{0, []byte{0, 0, 0, 0}},
		{1, []byte{1, 0, 0, 0}},
		{0x100, []byte{0, 1, 0, 0}},
		{0x10000, []byte{0, 0, 1, 0}},
		{0x80000000, []byte{0, 0, 0, 0x80}},
		{0x01020384, []byte{0x84, 3, 2, 1}},
		{0xE3069283, []byte{0x83, 0x92, 0x06, 0xE3}},
		{0xFFFFFFFF, []byte{255, 255, 255, 255}},
	} {
		if b := crc.Bytes(k.c); !bytes.Equal(b, k.want) {
			t.Errorf("Bytes(%#x): %v, want %v", k.c, b, k.want)
		}
	}
}

func TestBytesAreNewMemory(t *testing.T) {
	a, b := crc.Bytes(0x01020304), crc.Bytes(0x01020304)
	full := a[:cap(a)]
	for i := range full {
		full[i] = 0xEE
	}
	for _, l := range [][]byte{b, crc.Bytes(0x01020304)} {
		if !bytes.Equal(l, []byte{4, 3, 2, 1}) {
			t.Fatalf("Bytes behind a change of another answer: %v", l)
		}
	}
}

func TestArgumentsStayAsTheyAre(t *testing.T) {
	b := mixed(50, 50)
	was := bytes.Clone(b)
	first, next := crc.Sum(b[:20]), crc.Next(9, b[:20])
	if !bytes.Equal(b, was) {
		t.Fatal("a list that was handed in is changed")
	}
	clear(b)
	if crc.Sum(was[:20]) != first || crc.Next(9, was[:20]) != next {
		t.Fatal("the same question, another answer")
	}
}

// P1.2

func TestUnlikeWithin32BitsUnlikeSums(t *testing.T) {
	patterns := bursts()
	for _, n := range []int{1, 2, 3, 4, 5, 8, 64, 129} {
		b := mixed(n, int64(n))
		sum := crc.Sum(b)
		for _, p := range patterns {
			for at := range 8*n - bits.Len64(p) + 1 {
				if crc.Sum(turn(b, at, p)) == sum {
					t.Fatalf("%d bytes, %#x turned at bit %d: the same sum", n, p, at)
				}
			}
		}
	}
}

func TestTurnedTextAndSumDoNotFit(t *testing.T) {
	patterns := bursts()
	for _, n := range []int{0, 1, 2, 3, 4, 5, 8, 60, 125} {
		b := withSum(mixed(n, int64(n)))
		if !bytes.Equal(crc.Bytes(crc.Sum(b[:n])), b[n:]) || misfit(b) != 0 {
			t.Fatalf("%d bytes: the sum does not fit its own text", n)
		}
		for _, p := range patterns {
			for at := range 8*len(b) - bits.Len64(p) + 1 {
				if misfit(turn(b, at, p)) == 0 {
					t.Fatalf("%d bytes and the sum, %#x turned at bit %d: it fits", n, p, at)
				}
			}
		}
	}
}

// independent tells whether no choice of some of the words gives 0 under xor.
func independent(words []uint32) bool {
	var lead [32]uint32
	for _, w := range words {
		for w != 0 && lead[bits.Len32(w)-1] != 0 {
			w ^= lead[bits.Len32(w)-1]
		}
		if w == 0 {
			return false
		}
		lead[bits.Len32(w)-1] = w
	}
	return true
}

// Each turned bit moves the misfit by a word that hangs on its place alone, so
// that no pattern within a window goes unseen is the same as that the window's
// words are independent: thus all 2^32 patterns of each window are tried.
func TestEveryPatternOfEveryWindowIsSeen(t *testing.T) {
	for _, n := range []int{0, 1, 2, 3, 4, 5, 60, 300} {
		b := withSum(mixed(n, int64(n)))
		words := make([]uint32, 8*len(b))
		for at := range words {
			words[at] = misfit(turn(b, at, 1))
		}
		for at := range len(words) - 31 {
			if !independent(words[at : at+32]) {
				t.Fatalf("%d bytes: a pattern within 32 bits from bit %d on goes unseen", n, at)
			}
		}
		r := rand.New(rand.NewSource(int64(n)))
		for range 200 {
			at, p := r.Intn(len(words)-31), uint64(r.Uint32())
			want := uint32(0)
			for i := range 32 {
				if p>>i&1 == 1 {
					want ^= words[at+i]
				}
			}
			if m := misfit(turn(b, at, p)); m != want {
				t.Fatalf("%d bytes, %#x turned at bit %d: misfit %#x, want %#x", n, p, at, m, want)
			}
		}
	}
}

// The bound is exact: the polynomial itself is 33 bits long and goes unseen.
func TestThePolynomialItselfGoesUnseen(t *testing.T) {
	const whole = 1 | 0x82F63B78<<1
	b := withSum(mixed(20, 33))
	for at := range 8*len(b) - 32 {
		if misfit(turn(b, at, whole)) != 0 {
			t.Fatalf("the polynomial turned at bit %d is seen: another polynomial", at)
		}
	}
}
