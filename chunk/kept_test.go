package chunk

import (
	"fmt"
	"testing"

	"treering/crc"
)

// wantKept asks that each piece that is there stands under its sum, and nothing else does.
func wantKept(t *testing.T, c *Chunks) {
	t.Helper()
	count := 0
	for sum, ids := range c.numbers {
		if len(ids) == 0 {
			t.Fatalf("the sum %#x is kept without a piece", sum)
		}
		for _, id := range ids {
			if b, ok := c.pieces[id]; !ok || crc.Sum(b) != sum {
				t.Fatalf("%d is kept under the sum %#x, its piece is %q, %v", id, sum, b, ok)
			}
		}
		count += len(ids)
	}
	if count != len(c.pieces) {
		t.Fatalf("%d numbers are kept under sums, of %d pieces", count, len(c.pieces))
	}
}

// What was dropped leaves nothing behind: no call could tell, but what is kept would grow without end.
func TestNothingIsKeptOfWhatWasDropped(t *testing.T) {
	c := New()
	alike := []string{"\x00\x00\x00\x00\x00\x00", "\xf1\x76\xec\x05\x01\x00"} // unlike by the polynomial alone: one sum
	if crc.Sum([]byte(alike[0])) != crc.Sum([]byte(alike[1])) {
		t.Fatal("not two texts of one sum")
	}
	for round := range 20 {
		for i := range 50 {
			c.Put([]byte(fmt.Sprint(round%3, i)))
		}
		for _, b := range alike {
			c.Put([]byte(b))
		}
		wantKept(t, c)
		for i, id := range c.IDs() {
			if round%4 == 3 || i%(round+1) == 0 {
				c.Drop(id)
				wantKept(t, c)
			}
		}
	}
	if len(c.pieces) != 0 || len(c.numbers) != 0 {
		t.Fatalf("%d pieces and %d sums are kept of none", len(c.pieces), len(c.numbers))
	}
}
