package cut_test

import (
	"bytes"
	"fmt"
	"math"
	"math/big"
	"math/rand"
	"slices"
	"testing"

	"treering/api"
	"treering/cut"
)

// row is n times the byte x.
func row(n int, x byte) []byte { return bytes.Repeat([]byte{x}, n) }

// drawn is n bytes by chance.
func drawn(r *rand.Rand, n int) []byte {
	b := make([]byte, n)
	r.Read(b)
	return b
}

// drawnKind is n bytes by chance, of many values or of few, so that rows without any end are among them.
func drawnKind(r *rand.Rand, n int) []byte {
	b := make([]byte, n)
	values := []int{1, 2, 3, 4, 16, 256}[r.Intn(6)]
	for i := range b {
		b[i] = byte(r.Intn(values))
	}
	return b
}

// whole reckons a Hash with numbers that have no bound, and takes the rest only at the end.
func whole(b []byte, i int) uint32 {
	sum, by := big.NewInt(0), big.NewInt(1)
	for k := i; k >= 0 && k > i-8; k-- {
		sum.Add(sum, new(big.Int).Mul(by, big.NewInt(int64(b[k])+1)))
		by.Mul(by, big.NewInt(31))
	}
	return uint32(sum.Mod(sum, big.NewInt(1<<32)).Uint64())
}

// stops tells for each byte of b whether a piece that is long enough ends behind it.
func stops(b []byte) []bool {
	l := make([]bool, len(b))
	for i := range b {
		l[i] = whole(b, i)/65536%16 == 0
	}
	return l
}

// ends lays b's pieces byte by byte: another way than asking each piece for its end.
func ends(b []byte) []int {
	var l []int
	long := 0
	for i, stop := range stops(b) {
		long++
		if long == 64 || long >= 8 && stop || i == len(b)-1 {
			l = append(l, i+1)
			long = 0
		}
	}
	return l
}

// lengths are those of the pieces, and where they end.
func lengths(pieces [][]byte) (each, ends []int) {
	at := 0
	for _, p := range pieces {
		at += len(p)
		each, ends = append(each, len(p)), append(ends, at)
	}
	return each, ends
}

// noPlaces are numbers of which b of n bytes has no byte.
func noPlaces(n int) []int {
	return []int{-1, -2, -7, -8, -9, -63, -64, -65, -n - 1, n, n + 1, n + 7, n + 8, n + 64, 1<<31 - 1, 1 << 31, 1 << 32, -1 << 31, -1 << 32,
		math.MinInt, math.MinInt + 1, math.MinInt + 7, math.MinInt + 8, math.MaxInt, math.MaxInt - 1, math.MaxInt - 7, math.MaxInt - 63, math.MaxInt - 64}
}

// P9.1: Hash.

func TestHashByHand(t *testing.T) {
	for _, c := range []struct {
		b    []byte
		i    int
		want uint32
	}{
		// one byte, and 1
		{[]byte{0}, 0, 1},
		{[]byte{1}, 0, 2},
		{[]byte{255}, 0, 256},
		{[]byte{7, 255, 255}, 0, 8}, // what stands behind i does not matter
		// fewer than Window, at the beginning of b
		{[]byte{0, 1}, 1, 31*1 + 2},
		{[]byte{255, 255}, 1, 31*256 + 256},
		{[]byte{0, 1, 2}, 2, 961*1 + 31*2 + 3},
		{[]byte{2, 1, 0}, 2, 961*3 + 31*2 + 1},
		{[]byte{1, 0, 0, 0, 0, 0, 0}, 6, 2*887503681 + 28629151 + 923521 + 29791 + 961 + 31 + 1},
		{row(7, 0), 6, 917087137}, // (31^7 - 1) / 30
		// Window bytes: (31^8 - 1) / 30 is 28429701248, without six times 2^32 it is this
		{row(8, 0), 7, 2659897472},
		{row(8, 2), 7, 3684725120},   // 3 times 28429701248, without 19 times 2^32
		{row(8, 255), 7, 2328920064}, // 256 times 28429701248, without 1694 times 2^32
		{append(row(7, 0), 5), 7, 2659897477},
		{append([]byte{1}, row(7, 0)...), 7, 107740511}, // 31^7 more: 55942315359, without 13 times 2^32
		// more: what is ahead of the last Window does not matter
		{row(9, 0), 8, 2659897472},
		{append([]byte{255}, row(8, 0)...), 8, 2659897472},
		{append(row(300, 77), row(8, 2)...), 307, 3684725120},
	} {
		if got := cut.Hash(c.b, c.i); got != c.want {
			t.Errorf("Hash(%v, %d) = %d, want %d", c.b, c.i, got, c.want)
		}
	}
}

func TestHashIsThatOfWholeNumbers(t *testing.T) {
	r := rand.New(rand.NewSource(91))
	for n := range 80 {
		for _, b := range [][]byte{drawn(r, n), drawnKind(r, n), row(n, 0), row(n, 255)} {
			for i := range b {
				if got, want := cut.Hash(b, i), whole(b, i); got != want {
					t.Fatalf("Hash(%v, %d) = %d, want %d", b, i, got, want)
				}
			}
		}
	}
}

// Each of the last Window bytes matters, since 31 is odd, and no other one does.
func TestHashHangsOnTheWindowAlone(t *testing.T) {
	r := rand.New(rand.NewSource(92))
	for range 40 {
		b := drawn(r, 30)
		for i := range b {
			was := cut.Hash(b, i)
			for k := range b {
				other := slices.Clone(b)
				other[k] += byte(1 + r.Intn(255))
				if inside := k <= i && k > i-api.Window; (cut.Hash(other, i) != was) != inside {
					t.Fatalf("Hash at %d: byte %d changed: %d, %d ahead", i, k, cut.Hash(other, i), was)
				}
			}
		}
	}
}

func TestHashWhereThereIsNone(t *testing.T) {
	for _, b := range [][]byte{nil, {}, make([]byte, 0, 9), row(20, 9)[:0], {3}, row(7, 1), row(8, 1), row(100, 1), row(200, 1)[:100]} {
		for _, i := range noPlaces(len(b)) {
			if got := cut.Hash(b, i); got != 0 {
				t.Errorf("Hash(%d bytes, %d) = %d, want 0", len(b), i, got)
			}
		}
	}
	if got := cut.Hash(nil, 0); got != 0 {
		t.Errorf("Hash(nil, 0) = %d", got)
	}
}

// P9.1: Ends.

// A Hash of noughts is 0x9E8AD080, which fits not, and one of twos 0xDBA07180, which does.
func TestEndsByHand(t *testing.T) {
	mixed := append(row(20, 0), row(60, 2)...)
	for _, c := range []struct {
		b          []byte
		from, want int
	}{
		{row(300, 2), 0, 8},
		{row(300, 2), 1, 9},
		{row(300, 2), 292, 300},
		{row(300, 2), 293, 300},
		{row(8, 2), 0, 8},
		{row(9, 2), 0, 8},
		{row(7, 2), 0, 7}, // too short, although the Hash of a single byte fits
		{row(300, 0), 0, 64},
		{row(300, 0), 100, 164},
		{row(300, 0), 235, 299},
		{row(300, 0), 236, 300},
		{row(300, 0), 237, 300},
		{row(300, 0), 299, 300},
		{row(63, 0), 0, 63},
		{row(64, 0), 0, 64},
		{row(65, 0), 0, 64},
		{row(65, 0), 1, 65},
		{row(1, 0), 0, 1},
		{mixed, 20, 28},
		{mixed, 30, 38},
	} {
		if got := cut.Ends(c.b, c.from); got != c.want {
			t.Errorf("Ends(%d bytes of %d, %d) = %d, want %d", len(c.b), c.b[0], c.from, got, c.want)
		}
	}
}

// wantEnd looks for the end as the chapter says it.
func wantEnd(b []byte, stop []bool, from int) int {
	for i := from + 7; i < from+64; i++ {
		if i >= len(b) {
			return len(b)
		}
		if stop[i] {
			return i + 1
		}
	}
	return from + 64
}

// Each length that a piece may have because of its Hash or of b's end is drawn, and the bound, too.
func TestEndsFromEachPlace(t *testing.T) {
	r := rand.New(rand.NewSource(93))
	found := make(map[string]int)
	for range 400 {
		b := drawnKind(r, r.Intn(400))
		stop := stops(b)
		for from := range b {
			got, want := cut.Ends(b, from), wantEnd(b, stop, from)
			if got != want {
				t.Fatalf("Ends(%v, %d) = %d, want %d", b, from, got, want)
			}
			switch {
			case stop[got-1] && got-from >= 8:
				found[fmt.Sprint("hash ", got-from)]++
			case got == len(b):
				found[fmt.Sprint("end ", got-from)]++
			default:
				found[fmt.Sprint("bound ", got-from)]++
			}
		}
	}
	for n := 1; n <= 64; n++ {
		if n >= 8 && found[fmt.Sprint("hash ", n)] == 0 {
			t.Errorf("no piece of %d bytes because of its Hash was drawn", n)
		}
		if found[fmt.Sprint("end ", n)] == 0 {
			t.Errorf("no piece of %d bytes because of b's end was drawn", n)
		}
	}
	if found["bound 64"] == 0 {
		t.Error("no piece because of the bound was drawn")
	}
}

// A Hash that fits within the first seven bytes ends nothing.
func TestEndsNotAheadOfLeastChunk(t *testing.T) {
	r := rand.New(rand.NewSource(94))
	var seen [api.LeastChunk - 1]int
	for range 200 {
		b := drawn(r, 200)
		stop := stops(b)
		for from := range 100 {
			end := cut.Ends(b, from)
			if end < from+api.LeastChunk {
				t.Fatalf("Ends(%v, %d) = %d", b, from, end)
			}
			for k := range seen {
				if stop[from+k] && !stop[from+api.LeastChunk-1] {
					seen[k]++
				}
			}
		}
	}
	for k, n := range seen {
		if n == 0 {
			t.Errorf("no Hash was drawn that fits at the piece's byte %d", k)
		}
	}
}

// Ends asks Hash of the whole b: it is the same for each place of the same b, wherever the piece begins.
func TestEndsAgreesWithHash(t *testing.T) {
	r := rand.New(rand.NewSource(95))
	for range 100 {
		b := drawn(r, 300)
		for from := range b {
			end := cut.Ends(b, from)
			for i := from + api.LeastChunk - 1; i < end-1; i++ {
				if cut.Hash(b, i)>>16&15 == 0 {
					t.Fatalf("Ends(%v, %d) = %d, but the Hash at %d fits", b, from, end, i)
				}
			}
			if end < len(b) && end < from+api.MostChunk && cut.Hash(b, end-1)>>16&15 != 0 {
				t.Fatalf("Ends(%v, %d) = %d, where the Hash does not fit", b, from, end)
			}
		}
	}
}

func TestEndsFromNoPlace(t *testing.T) {
	for _, b := range [][]byte{nil, {}, make([]byte, 0, 9), row(20, 2)[:0], {3}, row(7, 2), row(8, 2), row(64, 0), row(100, 0), row(100, 2), row(200, 2)[:100]} {
		for _, from := range noPlaces(len(b)) {
			if got := cut.Ends(b, from); got != len(b) {
				t.Errorf("Ends(%d bytes, %d) = %d", len(b), from, got)
			}
		}
	}
	if got := cut.Ends(nil, 0); got != 0 {
		t.Errorf("Ends(nil, 0) = %d", got)
	}
}

// P9.1: Cut.

func TestCutByHand(t *testing.T) {
	for _, c := range []struct {
		b    []byte
		want []int
	}{
		{[]byte{1, 2, 3, 4, 5}, []int{5}}, // the chapter's example
		{row(1, 0), []int{1}},
		{row(7, 2), []int{7}},
		{row(8, 2), []int{8}},
		{row(9, 2), []int{8, 1}},
		{row(16, 2), []int{8, 8}},
		{row(30, 2), []int{8, 8, 8, 6}},
		{row(63, 0), []int{63}},
		{row(64, 0), []int{64}},
		{row(65, 0), []int{64, 1}},
		{row(200, 0), []int{64, 64, 64, 8}},
	} {
		got := cut.Cut(c.b)
		if each, _ := lengths(got); !slices.Equal(each, c.want) {
			t.Errorf("Cut(%d bytes of %d): %v, want %v", len(c.b), c.b[0], each, c.want)
		}
		if !bytes.Equal(slices.Concat(got...), c.b) {
			t.Errorf("Cut(%d bytes of %d): other bytes", len(c.b), c.b[0])
		}
	}
}

func TestCutOfNothing(t *testing.T) {
	for _, b := range [][]byte{nil, {}, make([]byte, 0, 9), row(20, 2)[:0], row(20, 2)[20:]} {
		if got := cut.Cut(b); len(got) != 0 {
			t.Errorf("Cut of nothing: %v", got)
		}
	}
}

func TestCutByteByByte(t *testing.T) {
	r := rand.New(rand.NewSource(96))
	for k := range 3000 {
		n := r.Intn(1200)
		if k < 300 {
			n = k
		}
		b := drawnKind(r, n)
		got := cut.Cut(b)
		_, at := lengths(got)
		if want := ends(b); !slices.Equal(at, want) {
			t.Fatalf("Cut(%v) ends at %v, want %v", b, at, want)
		}
		if !bytes.Equal(slices.Concat(got...), b) {
			t.Fatalf("Cut(%v): other bytes, or another order", b)
		}
	}
}

func TestCutGoesFromEndToEnd(t *testing.T) {
	r := rand.New(rand.NewSource(97))
	for range 300 {
		b := drawn(r, r.Intn(500))
		at := 0
		for i, p := range cut.Cut(b) {
			if end := cut.Ends(b, at); !bytes.Equal(p, b[at:end]) {
				t.Fatalf("Cut(%v): piece %d is %v, want %v", b, i, p, b[at:end])
			}
			at += len(p)
		}
		if at != len(b) {
			t.Fatalf("Cut(%v): %d bytes", b, at)
		}
	}
}

// P9.2

func TestPiecesTogetherAndTheirLengths(t *testing.T) {
	r := rand.New(rand.NewSource(98))
	for _, n := range []int{1, 7, 8, 9, 63, 64, 65, 1000, 1 << 14, 1 << 20} {
		for _, b := range [][]byte{drawn(r, n), drawnKind(r, n), row(n, 0), row(n, 2), row(n, 255)} {
			pieces := cut.Cut(b)
			if !bytes.Equal(slices.Concat(pieces...), b) {
				t.Fatalf("%d bytes: the pieces together are not b", n)
			}
			for i, p := range pieces {
				last := i == len(pieces)-1
				if len(p) == 0 || len(p) > api.MostChunk || len(p) < api.LeastChunk && !last {
					t.Fatalf("%d bytes: piece %d of %d has %d bytes", n, i, len(pieces), len(p))
				}
			}
		}
	}
}

// sameBehind asks that from some end on, at most far behind what was changed, the pieces of other are those of b.
func sameBehind(t *testing.T, what string, b, other []byte, at, far int) {
	t.Helper()
	old, now := cut.Cut(b), cut.Cut(other)
	same := 0
	for i := 1; i <= min(len(old), len(now)) && bytes.Equal(old[len(old)-i], now[len(now)-i]); i++ {
		same += len(old[len(old)-i])
	}
	if same < len(b)-at-far {
		t.Fatalf("%s at %d of %d bytes: only the last %d are cut as they were", what, at, len(b), same)
	}
}

func TestPiecesBehindAChangeAreTheSameAgain(t *testing.T) {
	r := rand.New(rand.NewSource(99))
	const far = 1000
	for range 20 {
		b := drawn(r, 4000)
		for _, at := range []int{0, 1, 7, 8, 9, 63, 64, 65, 500, 2000, r.Intn(2000), r.Intn(2000)} {
			for _, x := range []byte{0, 255, byte(r.Intn(256))} {
				sameBehind(t, "a byte put in", b, slices.Insert(slices.Clone(b), at, x), at, far)
			}
			sameBehind(t, "a byte taken out", b, slices.Delete(slices.Clone(b), at, at+1), at, far)
			sameBehind(t, "three bytes put in", b, slices.Insert(slices.Clone(b), at, 1, 2, 3), at, far)
		}
	}
}

// The pieces ahead of a change are the same, too, but for the one that it falls into.
func TestPiecesAheadOfAChangeAreTheSame(t *testing.T) {
	r := rand.New(rand.NewSource(100))
	for range 100 {
		b := drawn(r, 1000)
		at := r.Intn(len(b))
		old, now := cut.Cut(b), cut.Cut(slices.Insert(slices.Clone(b), at, byte(r.Intn(256))))
		for i, end := 0, len(old[0]); end <= at; i++ {
			if !bytes.Equal(old[i], now[i]) {
				t.Fatalf("a byte put in at %d: piece %d, which ends at %d, is another", at, i, end)
			}
			end += len(old[i+1])
		}
	}
}

// R4

func TestWhatIsHandedInStays(t *testing.T) {
	r := rand.New(rand.NewSource(101))
	all := drawn(r, 700)
	was := slices.Clone(all)
	b := all[100:400] // with spare room, and with bytes ahead
	for i := -10; i < 320; i++ {
		cut.Hash(b, i)
		cut.Ends(b, i)
	}
	cut.Cut(b)
	if !bytes.Equal(all, was) {
		t.Fatal("what was handed in is changed")
	}
}

// Neither what stands ahead of b nor its spare room is looked at.
func TestOnlyTheBytesOfTheListMatter(t *testing.T) {
	r := rand.New(rand.NewSource(102))
	for range 200 {
		all := drawn(r, 300)
		from := r.Intn(100)
		b := all[from : from+r.Intn(100)]
		alone := slices.Clip(slices.Clone(b))
		for i := range b {
			if cut.Hash(b, i) != cut.Hash(alone, i) || cut.Ends(b, i) != cut.Ends(alone, i) {
				t.Fatalf("at %d of %v another answer, with %v ahead and %v behind", i, b, all[:from], b[len(b):cap(b)])
			}
		}
		if !slices.EqualFunc(cut.Cut(b), cut.Cut(alone), bytes.Equal) {
			t.Fatalf("Cut(%v): other pieces, with %v ahead", b, all[:from])
		}
	}
}

// copies are copies of the pieces.
func copies(pieces [][]byte) [][]byte {
	l := make([][]byte, len(pieces))
	for i, p := range pieces {
		l[i] = slices.Clone(p)
	}
	return l
}

func TestPiecesAreNotKeptWithTheirData(t *testing.T) {
	r := rand.New(rand.NewSource(103))
	for _, n := range []int{1, 5, 8, 64, 65, 500} {
		b := drawn(r, n)
		pieces := cut.Cut(b)
		want := copies(pieces)
		for i := range b {
			b[i] = ^b[i]
		}
		if !slices.EqualFunc(pieces, want, bytes.Equal) {
			t.Fatalf("%d bytes: changed afterwards, the pieces change", n)
		}
	}
}

func TestPiecesShareNothing(t *testing.T) {
	r := rand.New(rand.NewSource(104))
	for _, n := range []int{1, 5, 8, 64, 65, 500} {
		all := drawn(r, n+200)
		was := slices.Clone(all)
		b := all[:n]
		want := copies(cut.Cut(b))
		other := cut.Cut(b)
		for i := range want {
			pieces := cut.Cut(b)
			spare := pieces[i][:cap(pieces[i])]
			for k := range spare {
				spare[k] = ^spare[k]
			}
			_ = append(pieces[i], 1, 2, 3, 4, 5, 6, 7, 8, 9)
			now, asked := slices.Delete(copies(pieces), i, i+1), slices.Delete(copies(want), i, i+1)
			if !slices.EqualFunc(now, asked, bytes.Equal) {
				t.Fatalf("%d bytes: piece %d changed and appended to, another one changes", n, i)
			}
			if !bytes.Equal(all, was) || !slices.EqualFunc(other, want, bytes.Equal) {
				t.Fatalf("%d bytes: piece %d changed and appended to, b or an answer ahead changes", n, i)
			}
		}
	}
}

func TestAnswersShareNoList(t *testing.T) {
	b := row(100, 2)
	first, second := cut.Cut(b), cut.Cut(b)
	room := first[:cap(first)]
	for i := range room {
		room[i] = []byte{9}
	}
	for _, l := range [][][]byte{second, cut.Cut(b)} {
		if !bytes.Equal(slices.Concat(l...), b) {
			t.Fatal("an answer changes with another one")
		}
	}
}
