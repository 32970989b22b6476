package chunk_test

import (
	"bytes"
	"encoding/binary"
	"fmt"
	"math"
	"math/rand"
	"slices"
	"strings"
	"testing"

	"treering/api"
	"treering/chunk"
	"treering/crc"
)

const greatest = 1 << 62

// most is one of the longest pieces, more is one byte too long.
var (
	most = strings.Repeat("m", 63) + "!"
	more = most + "!"
)

// asked asks for all that can be asked without changing anything.
func asked(c *chunk.Chunks) string {
	var s strings.Builder
	ids := c.IDs()
	fmt.Fprint(&s, ids, c.Size(), c.Next())
	for _, id := range ids {
		b, ok := c.Get(id)
		fmt.Fprintf(&s, " %d:%q %v", id, b, ok)
	}
	return s.String()
}

func wantAsked(t *testing.T, c *chunk.Chunks, what, want string) {
	t.Helper()
	if got := asked(c); got != want {
		t.Errorf("%s: %s, want %s", what, got, want)
	}
}

func wantPut(t *testing.T, c *chunk.Chunks, b string, id int, isNew bool, e api.Errno) {
	t.Helper()
	if n, is, got := c.Put([]byte(b)); n != id || is != isNew || got != e {
		t.Errorf("Put(%q) = %d, %v, %v, want %d, %v, %v", b, n, is, got, id, isNew, e)
	}
}

func wantSet(t *testing.T, c *chunk.Chunks, id int, b string, e api.Errno) {
	t.Helper()
	if got := c.Set(id, []byte(b)); got != e {
		t.Errorf("Set(%d, %q) = %v, want %v", id, b, got, e)
	}
}

func wantGet(t *testing.T, c *chunk.Chunks, id int, b string) {
	t.Helper()
	if got, ok := c.Get(id); !ok || string(got) != b {
		t.Errorf("Get(%d) = %q, %v, want %q", id, got, ok, b)
	}
}

func wantNone(t *testing.T, c *chunk.Chunks, ids ...int) {
	t.Helper()
	for _, id := range ids {
		if got, ok := c.Get(id); ok || len(got) != 0 {
			t.Errorf("Get(%d) = %q, %v, want nothing", id, got, ok)
		}
	}
}

func wantDrop(t *testing.T, c *chunk.Chunks, id int, want bool) {
	t.Helper()
	if got := c.Drop(id); got != want {
		t.Errorf("Drop(%d) = %v, want %v", id, got, want)
	}
}

// P10.1, Put

func TestPutTwiceIsOneNumber(t *testing.T) { // the chapter's example
	c := chunk.New()
	wantPut(t, c, "twice", 1, true, api.OK)
	wantPut(t, c, "twice", 1, false, api.OK)
	wantAsked(t, c, "put twice", `[1] 5 2 1:"twice" true`)
}

func TestPutOfNewBytesGivesNext(t *testing.T) {
	c := chunk.New()
	if c.Next() != 1 {
		t.Errorf("Next of nothing: %d", c.Next())
	}
	for i := range 300 {
		wantPut(t, c, fmt.Sprint("piece ", i), i+1, true, api.OK)
		if c.Next() != i+2 {
			t.Fatalf("Next behind %d Puts: %d", i+1, c.Next())
		}
	}
	for i := range 300 {
		wantPut(t, c, fmt.Sprint("piece ", i), i+1, false, api.OK)
		wantGet(t, c, i+1, fmt.Sprint("piece ", i))
	}
	if c.Next() != 301 {
		t.Errorf("Next behind Puts of what is there: %d", c.Next())
	}
}

func TestPutOfEachLength(t *testing.T) {
	c := chunk.New()
	for n := 1; n <= api.MostChunk; n++ {
		wantPut(t, c, strings.Repeat("\x00", n), n, true, api.OK)
		wantPut(t, c, strings.Repeat("\x00", n), n, false, api.OK)
	}
	was := asked(c)
	for _, b := range [][]byte{nil, {}, make([]byte, 0, 9), make([]byte, 65), make([]byte, 66), make([]byte, 1<<20)} {
		if id, is, e := c.Put(b); id != 0 || is || e != api.ErrArg {
			t.Errorf("Put of %d bytes: %d, %v, %v", len(b), id, is, e)
		}
	}
	wantAsked(t, c, "behind refused Puts", was)
}

func TestPutTellsAnyTwoTextsApart(t *testing.T) {
	c := chunk.New()
	for i, b := range []string{"a", "b", "A", "a\x00", "\x00a", "\x00", "\x00\x00", "ab", "ba", "aa", "\xff", "\xff\xff", "ä", most, most[:63], most[1:], "?" + most[1:]} {
		wantPut(t, c, b, i+1, true, api.OK)
	}
}

// P10.1: pieces are one just if their bytes are, whatever their sums.

// turned answers a copy of b, with the polynomial, 33 bits long, turned at bit at: the sum does not see it.
func turned(b []byte, at int) []byte {
	const whole = 1 | 0x82F63B78<<1
	b = bytes.Clone(b)
	for bit := range 33 {
		if whole>>bit&1 == 1 {
			b[(at+bit)/8] ^= 1 << ((at + bit) % 8)
		}
	}
	return b
}

// summed answers head with four bytes behind it that give both together this sum. Each bit of the four
// moves the sum by a word of its own, and 32 words that are independent reach every sum.
func summed(head []byte, sum uint32) []byte {
	b := append(bytes.Clone(head), 0, 0, 0, 0)
	base := crc.Sum(b)
	var words, choices [32]uint32
	for i := range 32 {
		bit := append(bytes.Clone(head), crc.Bytes(1<<i)...)
		w, choice := crc.Sum(bit)^base, uint32(1)<<i
		for k := 31; k >= 0; k-- {
			if w>>k&1 == 0 {
				continue
			}
			if words[k] == 0 {
				words[k], choices[k] = w, choice
				break
			}
			w, choice = w^words[k], choice^choices[k]
		}
	}
	left, chosen := sum^base, uint32(0)
	for k := 31; k >= 0; k-- {
		if left>>k&1 == 1 {
			left, chosen = left^words[k], chosen^choices[k]
		}
	}
	return append(bytes.Clone(head), crc.Bytes(chosen)...)
}

// alike answers different texts of 5 to 64 bytes that all have this sum.
func alike(t *testing.T, sum uint32) []string {
	t.Helper()
	var l []string
	for n := 1; n <= 60; n++ {
		b := summed(bytes.Repeat([]byte{byte(n)}, n), sum)
		l = append(l, string(b))
		for at := range 8*len(b) - 32 {
			if at%37 == 0 || at == 8*len(b)-33 {
				l = append(l, string(turned(b, at)))
			}
		}
	}
	slices.Sort(l)
	l = slices.Compact(l)
	for _, b := range l {
		if crc.Sum([]byte(b)) != sum {
			t.Fatalf("%q has the sum %#x, want %#x", b, crc.Sum([]byte(b)), sum)
		}
	}
	rand.New(rand.NewSource(int64(sum))).Shuffle(len(l), func(i, k int) { l[i], l[k] = l[k], l[i] })
	return l
}

func TestTwoPiecesOfOneSum(t *testing.T) {
	a := "sixteen bytes ..."
	b := string(turned([]byte(a), 3))
	if a == b || crc.Sum([]byte(a)) != crc.Sum([]byte(b)) {
		t.Fatal("not two texts of one sum")
	}
	c := chunk.New()
	wantPut(t, c, a, 1, true, api.OK)
	wantPut(t, c, b, 2, true, api.OK)
	for range 2 {
		wantPut(t, c, a, 1, false, api.OK)
		wantPut(t, c, b, 2, false, api.OK)
	}
	wantGet(t, c, 1, a)
	wantGet(t, c, 2, b)
	wantSet(t, c, 3, a, api.ErrThere)
	wantSet(t, c, 3, b, api.ErrThere)
	wantDrop(t, c, 1, true)
	wantPut(t, c, b, 2, false, api.OK)
	wantSet(t, c, 3, b, api.ErrThere)
	wantSet(t, c, 1, a, api.OK)
	wantDrop(t, c, 2, true)
	wantPut(t, c, a, 1, false, api.OK)
	wantSet(t, c, 9, b, api.OK)
	wantPut(t, c, b, 9, false, api.OK)
}

func TestPiecesOfOneSumAndOfAnyLength(t *testing.T) {
	for _, sum := range []uint32{0, 1, 0xE3069283, 0xFFFFFFFF} {
		c := chunk.New()
		l := alike(t, sum)
		if len(l) < 300 || !slices.ContainsFunc(l, func(s string) bool { return len(s) == api.MostChunk }) {
			t.Fatalf("only %d texts", len(l))
		}
		size := 0
		for i, b := range l {
			wantPut(t, c, b, i+1, true, api.OK)
			size += len(b)
		}
		for i, b := range l {
			wantPut(t, c, b, i+1, false, api.OK)
			wantGet(t, c, i+1, b)
		}
		if c.Size() != size || len(c.IDs()) != len(l) {
			t.Fatalf("Size %d, want %d; %d pieces, want %d", c.Size(), size, len(c.IDs()), len(l))
		}
		for i := 0; i < len(l); i += 2 {
			wantDrop(t, c, i+1, true)
		}
		for i, b := range l {
			if i%2 == 1 {
				wantPut(t, c, b, i+1, false, api.OK)
				wantGet(t, c, i+1, b)
			} else {
				wantNone(t, c, i+1)
			}
		}
		for i := 0; i < len(l); i += 2 {
			wantPut(t, c, l[i], len(l)+i/2+1, true, api.OK)
		}
	}
}

// P10.1, Get

func TestGetOfNoNumber(t *testing.T) {
	c := chunk.New()
	none := []int{0, -1, -2, math.MinInt, math.MaxInt, greatest, greatest + 1, 1 << 32, 1<<32 + 1, 1<<32 + 2, 4, 5}
	wantNone(t, c, append(none, 1, 2, 3)...)
	for i, b := range []string{"one", "two", "three"} {
		wantPut(t, c, b, i+1, true, api.OK)
	}
	wantNone(t, c, none...)
	wantDrop(t, c, 2, true)
	wantNone(t, c, append(none, 2)...)
	wantGet(t, c, 1, "one")
	wantGet(t, c, 3, "three")
}

// P10.1, Set

func TestSetTakesNumbersFrom1To2To62(t *testing.T) {
	c := chunk.New()
	for i, id := range []int{greatest, 1, greatest - 1, 2, 1 << 40, 1<<32 + 1, 1<<31 - 1} {
		wantSet(t, c, id, fmt.Sprint("piece ", i), api.OK)
		wantGet(t, c, id, fmt.Sprint("piece ", i))
		wantPut(t, c, fmt.Sprint("piece ", i), id, false, api.OK)
	}
	was := asked(c)
	for _, id := range []int{0, -1, -greatest, math.MinInt, greatest + 1, greatest + 2, math.MaxInt} {
		wantSet(t, c, id, "other", api.ErrArg)
		wantSet(t, c, id, "piece 1", api.ErrArg) // ahead of ErrThere
		wantSet(t, c, id, "", api.ErrArg)
		wantSet(t, c, id, more, api.ErrArg)
		wantNone(t, c, id)
	}
	wantAsked(t, c, "behind refused Sets", was)
}

func TestSetTakesPieces(t *testing.T) {
	c := chunk.New()
	wantSet(t, c, 5, "x", api.OK)
	wantSet(t, c, 3, most, api.OK)
	was := asked(c)
	for _, id := range []int{1, 4, 6, 3, 5} { // of those that are there, too: ErrArg is ahead of ErrThere
		wantSet(t, c, id, "", api.ErrArg)
		wantSet(t, c, id, more, api.ErrArg)
		wantSet(t, c, id, strings.Repeat("z", 1<<16), api.ErrArg)
		if e := c.Set(id, nil); e != api.ErrArg {
			t.Errorf("Set(%d, nil) = %v", id, e)
		}
	}
	wantAsked(t, c, "behind refused Sets", was)
}

func TestSetOfWhatIsThere(t *testing.T) {
	c := chunk.New()
	wantPut(t, c, "put", 1, true, api.OK)
	wantSet(t, c, 7, "set", api.OK)
	was := asked(c)
	for _, id := range []int{1, 7} {
		wantSet(t, c, id, "other", api.ErrThere) // the number is there
		wantSet(t, c, id, "put", api.ErrThere)   // both are, as one piece and as two
		wantSet(t, c, id, "set", api.ErrThere)
	}
	for _, id := range []int{2, 6, 8, greatest} {
		wantSet(t, c, id, "put", api.ErrThere) // the bytes are there
		wantSet(t, c, id, "set", api.ErrThere)
	}
	wantAsked(t, c, "behind refused Sets", was)
	wantSet(t, c, 2, "other", api.OK)
	wantAsked(t, c, "behind another Set", `[1 2 7] 11 8 1:"put" true 2:"other" true 7:"set" true`)
}

// P10.1, Next

func TestNextIsAboveAllThatEverWere(t *testing.T) {
	c := chunk.New()
	wantSet(t, c, 50, "fifty", api.OK)
	wantAsked(t, c, "behind Set(50)", `[50] 5 51 50:"fifty" true`)
	wantSet(t, c, 7, "seven", api.OK)
	if c.Next() != 51 {
		t.Errorf("Next behind a Set below it: %d", c.Next())
	}
	wantPut(t, c, "a", 51, true, api.OK)
	wantDrop(t, c, 51, true)
	if c.Next() != 52 {
		t.Errorf("Next, the greatest dropped: %d", c.Next())
	}
	wantPut(t, c, "a", 52, true, api.OK)
	for _, id := range []int{52, 50, 7} {
		wantDrop(t, c, id, true)
	}
	wantAsked(t, c, "all dropped", "[] 0 53")
	wantSet(t, c, 60, "sixty", api.OK)
	wantDrop(t, c, 60, true)
	wantPut(t, c, "sixty", 61, true, api.OK)
	wantSet(t, c, 61, "q", api.ErrThere)
	wantSet(t, c, 62, "sixty", api.ErrThere)
	wantSet(t, c, 63, "", api.ErrArg)
	wantPut(t, c, "b", 62, true, api.OK)
	if c.Next() != 63 {
		t.Errorf("Next behind what was refused: %d", c.Next())
	}
}

func TestPutsBehindTheGreatestSet(t *testing.T) {
	c := chunk.New()
	wantSet(t, c, greatest, "big", api.OK)
	wantPut(t, c, "a", greatest+1, true, api.OK)
	wantPut(t, c, "b", greatest+2, true, api.OK)
	wantPut(t, c, "a", greatest+1, false, api.OK)
	wantGet(t, c, greatest+2, "b")
	wantDrop(t, c, greatest+2, true)
	if c.Next() != greatest+3 {
		t.Errorf("Next: %d", c.Next())
	}
	if ids := c.IDs(); !slices.Equal(ids, []int{greatest, greatest + 1}) {
		t.Errorf("IDs: %v", ids)
	}
}

// P10.1, Drop

func TestDrop(t *testing.T) {
	c := chunk.New()
	for i, b := range []string{"one", "second", "3"} {
		wantPut(t, c, b, i+1, true, api.OK)
	}
	was := asked(c)
	for _, id := range []int{0, -1, 4, math.MinInt, math.MaxInt, greatest, 1<<32 + 1} {
		wantDrop(t, c, id, false)
	}
	wantAsked(t, c, "nothing dropped", was)
	wantDrop(t, c, 2, true)
	wantAsked(t, c, "one dropped", `[1 3] 4 4 1:"one" true 3:"3" true`)
	wantDrop(t, c, 2, false)
	wantPut(t, c, "second", 4, true, api.OK)
	wantSet(t, c, 2, "second", api.ErrThere)
	wantSet(t, c, 2, "again", api.OK)
	wantAsked(t, c, "set again", `[1 2 3 4] 15 5 1:"one" true 2:"again" true 3:"3" true 4:"second" true`)
}

func TestDroppedMayBeSetAgainAsItWas(t *testing.T) {
	c := chunk.New()
	wantPut(t, c, "one", 1, true, api.OK)
	wantPut(t, c, "two", 2, true, api.OK)
	was := asked(c)
	for range 3 {
		wantDrop(t, c, 1, true)
		wantDrop(t, c, 1, false)
		wantSet(t, c, 1, "one", api.OK)
		wantAsked(t, c, "set under its old number", was)
	}
	wantPut(t, c, "one", 1, false, api.OK)
}

// P10.1, IDs and Size

func TestIDsRise(t *testing.T) {
	r := rand.New(rand.NewSource(10))
	for range 30 {
		c := chunk.New()
		var want []int
		size := 0
		for _, n := range r.Perm(100) {
			id, b := 1+n*n*n<<r.Intn(3), bytes.Repeat([]byte{byte(n)}, 1+r.Intn(64))
			if c.Set(id, b) == api.OK {
				want, size = append(want, id), size+len(b)
			}
		}
		slices.Sort(want)
		for range 5 {
			if ids := c.IDs(); !slices.Equal(ids, want) || c.Size() != size {
				t.Fatalf("IDs %v, want %v; Size %d, want %d", ids, want, c.Size(), size)
			}
		}
	}
}

func TestNothingThere(t *testing.T) {
	c := chunk.New()
	if len(c.IDs()) != 0 || c.Size() != 0 || c.Next() != 1 || c.Drop(1) || c.Drop(0) {
		t.Error("there is something in new Chunks")
	}
	wantNone(t, c, 0, 1)
}

// All calls together, held against a plain list of pieces.

type piece struct {
	id int
	b  string
}

type list struct {
	there []piece
	next  int
}

func (l *list) at(b string) int {
	return slices.IndexFunc(l.there, func(p piece) bool { return p.b == b })
}

func (l *list) under(id int) int {
	return slices.IndexFunc(l.there, func(p piece) bool { return p.id == id })
}

func (l *list) add(id int, b string) {
	l.there = append(l.there, piece{id, b})
	slices.SortFunc(l.there, func(p, q piece) int { return p.id - q.id })
	l.next = max(l.next, id+1)
}

func (l *list) put(b string) string {
	if b == "" || len(b) > 64 {
		return fmt.Sprint(0, false, api.ErrArg)
	}
	if i := l.at(b); i >= 0 {
		return fmt.Sprint(l.there[i].id, false, api.OK)
	}
	id := l.next
	l.add(id, b)
	return fmt.Sprint(id, true, api.OK)
}

func (l *list) set(id int, b string) api.Errno {
	if id < 1 || id > greatest || b == "" || len(b) > 64 {
		return api.ErrArg
	}
	if l.under(id) >= 0 || l.at(b) >= 0 {
		return api.ErrThere
	}
	l.add(id, b)
	return api.OK
}

func (l *list) drop(id int) bool {
	i := l.under(id)
	if i < 0 {
		return false
	}
	l.there = slices.Delete(l.there, i, i+1)
	return true
}

func (l *list) asked() string {
	var ids []int
	var each strings.Builder
	size := 0
	for _, p := range l.there {
		ids = append(ids, p.id)
		size += len(p.b)
		fmt.Fprintf(&each, " %d:%q %v", p.id, p.b, true)
	}
	return fmt.Sprint(ids, size, l.next) + each.String()
}

// pool are texts of which many have one sum, some may be no pieces, and some are close to others.
func pool(t *testing.T, r *rand.Rand) []string {
	l := slices.Concat(alike(t, 0)[:6], alike(t, 0x12345678)[:6], []string{"a", "b", "ab", "a\x00", "", more, most})
	for range 6 {
		b := make([]byte, 1+r.Intn(64))
		r.Read(b)
		l = append(l, string(b))
	}
	return l
}

func TestAnyCallsAreThoseOfAList(t *testing.T) {
	for seed := range 150 {
		r := rand.New(rand.NewSource(int64(seed)))
		c, l := chunk.New(), &list{next: 1}
		texts := pool(t, r)
		for step := range 200 {
			b, id := texts[r.Intn(len(texts))], r.Intn(l.next+3)-1
			if r.Intn(100) == 0 {
				id = []int{greatest, greatest + 1, math.MaxInt, math.MinInt, 1 << 31}[r.Intn(5)]
			}
			var what, got, want string
			switch r.Intn(3) {
			case 0:
				n, is, e := c.Put([]byte(b))
				what, got, want = fmt.Sprintf("Put(%q)", b), fmt.Sprint(n, is, e), l.put(b)
			case 1:
				what, got, want = fmt.Sprintf("Set(%d, %q)", id, b), c.Set(id, []byte(b)).Error(), l.set(id, b).Error()
			default:
				what, got, want = fmt.Sprintf("Drop(%d)", id), fmt.Sprint(c.Drop(id)), fmt.Sprint(l.drop(id))
			}
			if got != want || asked(c) != l.asked() {
				t.Fatalf("seed %d, step %d: %s: %s and %s, want %s and %s", seed, step, what, got, asked(c), want, l.asked())
			}
		}
	}
}

// P10.1, Record and Parse

// written writes a record in another way than pen does.
func written(id int, b []byte) []byte {
	return append(binary.AppendUvarint(binary.AppendUvarint(nil, uint64(max(id, 0))), uint64(len(b))), b...)
}

func someIDs() []int {
	l := []int{0, 1, 2, 300, greatest - 1, greatest}
	for bit := 1; bit < 62; bit++ {
		l = append(l, 1<<bit-1, 1<<bit, 1<<bit+1)
	}
	return l
}

func someBytes() [][]byte {
	l := [][]byte{nil, {}, {0}, {0x80}, {255, 254}, []byte("ab"), []byte("näh"), {2, 97, 98}}
	for _, n := range []int{8, 63, 64, 65, 127, 128, 129, 16383, 16384, 70000} {
		l = append(l, bytes.Repeat([]byte{byte(n), 0}, n)[:n])
	}
	return l
}

func wantForm(t *testing.T, b []byte) {
	t.Helper()
	if id, text, e := chunk.Parse(b); id != 0 || len(text) != 0 || e != api.ErrForm {
		t.Errorf("Parse(%x) = %d, %q, %v, want ErrForm", b, id, text, e)
	}
}

func TestRecordByHand(t *testing.T) {
	for _, k := range []struct {
		id   int
		b    string
		want []byte
	}{
		{1, "a", []byte{1, 1, 'a'}},
		{300, "ab", []byte{0xac, 2, 2, 'a', 'b'}},
		{127, "", []byte{127, 0}},
		{128, "\x80", []byte{0x80, 1, 1, 0x80}},
		{0, "x", []byte{0, 1, 'x'}},
		{greatest, "x", []byte{0x80, 0x80, 0x80, 0x80, 0x80, 0x80, 0x80, 0x80, 0x40, 1, 'x'}},
	} {
		if got := chunk.Record(k.id, []byte(k.b)); !bytes.Equal(got, k.want) {
			t.Errorf("Record(%d, %q) = %x, want %x", k.id, k.b, got, k.want)
		}
	}
	if got := chunk.Record(5, []byte(most)); !bytes.Equal(got, append([]byte{5, 64}, most...)) {
		t.Errorf("Record of the longest piece: %x", got)
	}
}

func TestRecordIsUndone(t *testing.T) {
	for _, id := range someIDs() {
		for _, b := range someBytes() {
			if len(b) > 200 && id > 300 && id < greatest {
				continue
			}
			got := chunk.Record(id, b)
			if !bytes.Equal(got, written(id, b)) {
				t.Fatalf("Record(%d, %d bytes) is other bytes", id, len(b))
			}
			if n, text, e := chunk.Parse(got); n != id || !bytes.Equal(text, b) || e != api.OK {
				t.Fatalf("Parse of Record(%d, %d bytes) = %d, %d bytes, %v", id, len(b), n, len(text), e)
			}
		}
	}
}

func TestRecordOfNumbersThatAreNotReadBack(t *testing.T) {
	for _, id := range []int{-1, -2, -300, -greatest, math.MinInt} {
		b := chunk.Record(id, []byte("ab"))
		if !bytes.Equal(b, []byte{0, 2, 'a', 'b'}) {
			t.Errorf("Record(%d, ab) = %x", id, b)
		}
		if n, text, e := chunk.Parse(b); n != 0 || string(text) != "ab" || e != api.OK {
			t.Errorf("Parse of Record(%d, ab) = %d, %q, %v", id, n, text, e)
		}
	}
	for _, id := range []int{greatest + 1, greatest + 2, math.MaxInt} {
		b := chunk.Record(id, []byte("ab"))
		if !bytes.Equal(b, written(id, []byte("ab"))) {
			t.Errorf("Record(%d, ab) = %x", id, b)
		}
		wantForm(t, b)
	}
}

func TestParseOfWhatIsCutOrLonger(t *testing.T) {
	wantForm(t, nil)
	wantForm(t, []byte{})
	for _, id := range []int{0, 1, 300, greatest} {
		for _, text := range []string{"", "a", "ab", "\x00\x00\x00", most, strings.Repeat("q", 300)} {
			b := chunk.Record(id, []byte(text))
			for n := range b {
				wantForm(t, b[:n])
			}
			for _, x := range []byte{0, 1, 0x80, 255} {
				wantForm(t, append(bytes.Clone(b), x))
			}
			wantForm(t, append(bytes.Clone(b), b...))
		}
	}
}

func TestParseOfNumsThatAreBad(t *testing.T) {
	big := []byte{0x81, 0x80, 0x80, 0x80, 0x80, 0x80, 0x80, 0x80, 0x40} // 2^62 + 1
	for _, b := range [][]byte{
		{0x85, 0, 1, 'a'},   // longer than need be
		{0x80, 0, 1, 'a'},   // 0, too
		{5, 0x81, 0, 'a'},   // the text's, too
		{5, 0x80, 0},        // of no bytes
		{0x85, 0x80, 0, 0},  // by more than one byte
		append(big, 1, 'a'), // above 2^62
		append([]byte{5}, append(big, 'a')...),
		append(bytes.Repeat([]byte{255}, 20), 1, 1, 'a'),
		{5, 0x80, 0x80, 0x80, 0x80, 0x80, 0x80, 0x80, 0x80, 0x40, 'a'}, // a text of 2^62 bytes
	} {
		wantForm(t, b)
	}
}

// Only what Record makes is a record: all rows of up to three bytes, and drawn ones, are held against it.
func TestParseOfAnyBytes(t *testing.T) {
	found := 0
	try := func(b []byte) {
		id, text, e := chunk.Parse(b)
		n, head := binary.Uvarint(b)
		size, next := binary.Uvarint(b[max(head, 0):])
		at := max(head, 0) + max(next, 0)
		ok := head > 0 && next > 0 && n <= greatest && size == uint64(len(b)-at) && bytes.Equal(written(int(n), b[at:]), b)
		if !ok {
			n, at = 0, len(b)
		} else {
			found++
		}
		if (e == api.OK) != ok || !ok && e != api.ErrForm || id != int(n) || !bytes.Equal(text, b[at:]) {
			t.Fatalf("Parse(%x) = %d, %q, %v; a record: %v", b, id, text, e, ok)
		}
	}
	for x := range 1 << 16 {
		b := []byte{byte(x), byte(x >> 8)}
		try(b[:1])
		try(b)
		for _, y := range []byte{0, 1, 2, 0x7f, 0x80, 0xff} {
			try(append(b, y))
		}
	}
	r := rand.New(rand.NewSource(11))
	few := []byte{0, 1, 2, 3, 0x40, 0x41, 0x7f, 0x80, 0x80, 0x81, 0xff}
	for range 200000 {
		b := make([]byte, r.Intn(16))
		for i := range b {
			b[i] = few[r.Intn(len(few))]
		}
		try(b)
		if len(b) > 0 && len(b) < 12 {
			try(append(written(r.Intn(greatest)>>r.Intn(63), b), b[:r.Intn(2)]...))
		}
	}
	if found < 1000 {
		t.Fatalf("only %d records were tried", found)
	}
}

// R3

func TestRefusedCallsChangeNothing(t *testing.T) {
	c := chunk.New()
	wantPut(t, c, "one", 1, true, api.OK)
	wantSet(t, c, 9, "nine", api.OK)
	wantDrop(t, c, 1, true)
	was := asked(c)
	wantPut(t, c, "", 0, false, api.ErrArg)
	wantPut(t, c, more, 0, false, api.ErrArg)
	wantSet(t, c, 0, "zero", api.ErrArg)
	wantSet(t, c, -1, "below", api.ErrArg)
	wantSet(t, c, greatest+1, "above", api.ErrArg)
	wantSet(t, c, math.MaxInt, "above", api.ErrArg)
	wantSet(t, c, 100, "", api.ErrArg)
	wantSet(t, c, 100, more, api.ErrArg)
	wantSet(t, c, 9, "other", api.ErrThere)
	wantSet(t, c, 100, "nine", api.ErrThere)
	wantDrop(t, c, 1, false)
	wantDrop(t, c, 100, false)
	wantAsked(t, c, "behind refused calls", was)
	for i, b := range []string{"zero", "below", "above", "other", "one"} { // none of them is there
		wantPut(t, c, b, 10+i, true, api.OK)
	}
	wantPut(t, c, "nine", 9, false, api.OK)
}

// R4

// spare answers a row with these bytes that has spare room, and all of its room.
func spare(s string) ([]byte, []byte) {
	all := bytes.Repeat([]byte{0xcc}, len(s)+100)
	copy(all[10:], s)
	return all[10 : 10+len(s)], all
}

// spoil changes all of b, its spare room too.
func spoil(b []byte) {
	b = b[:cap(b)]
	for i := range b {
		b[i] ^= 0x55
	}
}

func TestWhatIsHandedInIsNeitherChangedNorKept(t *testing.T) {
	c := chunk.New()
	for i, s := range []string{"own", "x", most, "set"} {
		b, all := spare(s)
		was := bytes.Clone(all)
		for range 2 {
			if i == 3 {
				c.Set(4, b)
			} else {
				c.Put(b)
			}
			c.Set(9, b)
			c.Set(0, b)
		}
		c.Put(all)
		if !bytes.Equal(all, was) {
			t.Fatalf("%q: what was handed in is changed", s)
		}
		spoil(b)
		wantGet(t, c, i+1, s)
		wantPut(t, c, s, i+1, false, api.OK)
	}
	wantAsked(t, c, "what was handed in changed", fmt.Sprintf(`[1 2 3 4] 71 5 1:"own" true 2:"x" true 3:%q true 4:"set" true`, most))
}

func TestAnswersAreNewMemory(t *testing.T) {
	c := chunk.New()
	texts := []string{"one", "two", most, "x"}
	for i, s := range texts {
		wantPut(t, c, s, i+1, true, api.OK)
	}
	was := asked(c)
	for i, s := range texts {
		first, _ := c.Get(i + 1)
		second, _ := c.Get(i + 1)
		spoil(first)
		if string(second) != s {
			t.Fatalf("an answer of Get changes with another one: %q", second)
		}
		wantPut(t, c, s, i+1, false, api.OK)
	}
	wantAsked(t, c, "answers of Get changed", was)
	first, second := c.IDs(), c.IDs()
	first = first[:cap(first)]
	for i := range first {
		first[i] = -7
	}
	if !slices.Equal(second, []int{1, 2, 3, 4}) {
		t.Fatalf("an answer of IDs changes with another one: %v", second)
	}
	wantAsked(t, c, "an answer of IDs changed", was)
	wantPut(t, c, "new", 5, true, api.OK)
	if !slices.Equal(second, []int{1, 2, 3, 4}) {
		t.Fatalf("an answer of IDs changes with the Chunks: %v", second)
	}
	kept, _ := c.Get(1)
	wantDrop(t, c, 1, true)
	wantSet(t, c, 1, "ONE", api.OK)
	if string(kept) != "one" {
		t.Fatalf("an answer of Get changes with the Chunks: %q", kept)
	}
}

func TestRecordsAreNewMemory(t *testing.T) {
	for _, s := range []string{"", "a", "text", most, more} {
		b, all := spare(s)
		was := bytes.Clone(all)
		first, second := chunk.Record(300, b), chunk.Record(300, b)
		if !bytes.Equal(all, was) {
			t.Fatalf("%q: Record changes what it is handed", s)
		}
		want := bytes.Clone(second)
		spoil(first)
		spoil(b)
		if !bytes.Equal(second, want) {
			t.Fatalf("%q: a Record changes with another one, or with what was handed in", s)
		}
		record, all := spare(string(want))
		was = bytes.Clone(all)
		_, x, _ := chunk.Parse(record)
		_, y, _ := chunk.Parse(record)
		spoil(x)
		if string(y) != s || !bytes.Equal(all, was) {
			t.Fatalf("%q: an answer of Parse shares memory with another one, or with the record", s)
		}
		spoil(record)
		if string(y) != s {
			t.Fatalf("%q: an answer of Parse changes with the record", s)
		}
	}
}

// Only the bytes of a row matter, not what its spare room has.
func TestSpareRoomIsNotLookedAt(t *testing.T) {
	c := chunk.New()
	b, _ := spare("same")
	if id, is, e := c.Put(b); id != 1 || !is || e != api.OK {
		t.Fatal("Put with spare room:", id, is, e)
	}
	wantPut(t, c, "same", 1, false, api.OK)
	wantGet(t, c, 1, "same")
	record, _ := spare(string(chunk.Record(7, b)))
	if id, text, e := chunk.Parse(record); id != 7 || string(text) != "same" || e != api.OK {
		t.Fatal("Parse with spare room:", id, text, e)
	}
}

func TestTwoChunksAreNotOne(t *testing.T) {
	c, d := chunk.New(), chunk.New()
	wantPut(t, c, "one", 1, true, api.OK)
	wantPut(t, c, "two", 2, true, api.OK)
	wantAsked(t, d, "others", "[] 0 1")
	wantPut(t, d, "two", 1, true, api.OK)
	wantDrop(t, c, 1, true)
	wantAsked(t, d, "others", `[1] 3 2 1:"two" true`)
}

// R7, and R1 for Chunks that New did not make.

func TestNilChunks(t *testing.T) {
	var c *chunk.Chunks
	for _, b := range []string{"a", "", more} {
		wantPut(t, c, b, 0, false, api.ErrArg)
		for _, id := range []int{1, 0, -1, greatest, math.MaxInt} {
			wantSet(t, c, id, b, api.ErrArg)
			wantNone(t, c, id)
			wantDrop(t, c, id, false)
		}
	}
	if len(c.IDs()) != 0 || c.Size() != 0 || c.Next() != 0 {
		t.Errorf("nil: %v %d %d", c.IDs(), c.Size(), c.Next())
	}
}

func TestZeroChunksAreThoseOfNew(t *testing.T) {
	c := new(chunk.Chunks)
	wantAsked(t, c, "zero Chunks", "[] 0 1")
	wantNone(t, c, 0, 1)
	wantDrop(t, c, 1, false)
	wantPut(t, c, "a", 1, true, api.OK)
	wantAsked(t, c, "zero Chunks behind a Put", `[1] 1 2 1:"a" true`)
	c = new(chunk.Chunks)
	wantSet(t, c, 5, "a", api.OK)
	wantAsked(t, c, "zero Chunks behind a Set", `[5] 1 6 5:"a" true`)
}
