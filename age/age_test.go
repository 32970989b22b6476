package age_test

import (
	"math"
	"math/big"
	"math/rand"
	"testing"

	"treering/age"
	"treering/api"
)

var (
	nan   = math.NaN()
	inf   = math.Inf(1)
	minus = math.Copysign(0, -1)
)

const (
	least = math.SmallestNonzeroFloat64
	most  = math.MaxFloat64
)

// times are numbers that are a time: the edges and some between them.
func times() []float64 {
	return []float64{0, minus, least, 2 * least, 0x1p-1022, 0.1, 0.5, 1, 1 + 0x1p-52, 1.5, 2, 7.5, 8, 1 << 53, 1<<53 + 2, 1e300, most / 2, math.Nextafter(most, 0), most}
}

// noTimes are numbers that are none.
func noTimes() []float64 {
	return []float64{nan, math.Float64frombits(0xFFF8000000000001), math.Float64frombits(0x7FF0000000000001), inf, -inf, -least, -0.5, -1, -most}
}

// like holds the numbers' bits against each other: 0 and -0 are unlike, all NaN are alike.
func like(a, b float64) bool {
	if a != a || b != b {
		return a != a && b != b
	}
	return math.Float64bits(a) == math.Float64bits(b)
}

// anyNumber is one of the edges, or a number near one, or any bits at all.
func anyNumber(r *rand.Rand) float64 {
	edges := append(times(), noTimes()...)
	switch r.Intn(5) {
	case 0:
		return edges[r.Intn(len(edges))]
	case 1:
		return math.Float64frombits(r.Uint64())
	case 2:
		return math.Float64frombits(r.Uint64() >> 1)
	case 3:
		return float64(r.Intn(100)) / 4
	}
	return r.Float64() * 1e6
}

// isTime asks the bits themselves: an exponent below the highest, and no sign but that of -0.
func isTime(x float64) bool {
	bits := math.Float64bits(x)
	return bits>>52&0x7FF != 0x7FF && (bits>>63 == 0 || bits<<1 == 0)
}

func exact(x float64) *big.Rat { return new(big.Rat).SetFloat64(x) }

// nearest is the float64 nearest to x, which is infinite where x is too great.
func nearest(x *big.Rat) float64 {
	f, _ := x.Float64()
	return f
}

// wantAfter reckons the sum exactly and rounds it once.
func wantAfter(t, d float64) (float64, api.Errno) {
	if !isTime(t) || !isTime(d) {
		return 0, api.ErrArg
	}
	sum := nearest(new(big.Rat).Add(exact(t), exact(d)))
	if sum > most {
		return 0, api.ErrArg
	}
	return sum, api.OK
}

// wantOf reckons the age exactly and rounds it once.
func wantOf(now, t float64) float64 {
	if !isTime(now) || !isTime(t) {
		return 0
	}
	less := new(big.Rat).Sub(exact(now), exact(t))
	if less.Sign() < 0 {
		return 0
	}
	return nearest(less)
}

// wantBucket reckons the quotient exactly, rounds it to a float64 once, and then down.
func wantBucket(t, grain float64) float64 {
	if !isTime(t) || !(grain > 0) {
		return nan
	}
	if grain > most {
		return 0
	}
	if t == 0 {
		return t
	}
	by := nearest(new(big.Rat).Quo(exact(t), exact(grain)))
	if by > most {
		return by
	}
	q := exact(by)
	return nearest(new(big.Rat).SetInt(new(big.Int).Quo(q.Num(), q.Denom())))
}

// P3.1: May.
func TestMay(t *testing.T) {
	for _, x := range times() {
		if !age.May(x) {
			t.Errorf("May(%v) is false", x)
		}
	}
	for _, x := range noTimes() {
		if age.May(x) {
			t.Errorf("May(%v) is true", x)
		}
	}
	r := rand.New(rand.NewSource(31))
	for range 20000 {
		if x := anyNumber(r); age.May(x) != isTime(x) {
			t.Fatalf("May(%v) is %v", x, age.May(x))
		}
	}
}

// P3.1: After, on what its sentence names.
func TestAfter(t *testing.T) {
	for _, c := range []struct {
		t, d, want float64
		err        api.Errno
	}{
		{1, 2.5, 3.5, api.OK},
		{0, 0, 0, api.OK},
		{minus, minus, 0, api.OK},
		{minus, 0, 0, api.OK},
		{0, minus, 0, api.OK},
		{minus, 3, 3, api.OK},
		{3, minus, 3, api.OK},
		{least, least, 2 * least, api.OK},
		{1 << 53, 1, 1 << 53, api.OK},
		{most, 0, most, api.OK},
		{most, 1, most, api.OK},
		{most / 2, most / 2, most, api.OK},
		{most, most, 0, api.ErrArg},
		{most, 0x1p970, 0, api.ErrArg},
		{most, 0x1p969, most, api.OK},
		{2, -1, 0, api.ErrArg},
		{-1, 2, 0, api.ErrArg},
	} {
		got, err := age.After(c.t, c.d)
		if !like(got, c.want) || err != c.err {
			t.Errorf("After(%v, %v): %v, %d, want %v, %d", c.t, c.d, got, err, c.want, c.err)
		}
	}
	for _, bad := range noTimes() {
		for _, x := range append(times(), noTimes()...) {
			if got, err := age.After(bad, x); !like(got, 0) || err != api.ErrArg {
				t.Errorf("After(%v, %v): %v, %d", bad, x, got, err)
			}
			if got, err := age.After(x, bad); !like(got, 0) || err != api.ErrArg {
				t.Errorf("After(%v, %v): %v, %d", x, bad, got, err)
			}
		}
	}
}

// P3.1: Of, on what its sentence names.
func TestOf(t *testing.T) {
	for _, c := range []struct{ now, t, want float64 }{
		{5, 2, 3},
		{2, 5, 0},
		{2, 2, 0},
		{0, 0, 0},
		{minus, 0, 0},
		{0, minus, 0},
		{minus, minus, 0},
		{5, minus, 5},
		{minus, 5, 0},
		{2 * least, least, least},
		{least, 2 * least, 0},
		{most, 0, most},
		{most, most, 0},
		{0, most, 0},
		{1 + 0x1p-52, 1, 0x1p-52},
		{1, 1 + 0x1p-52, 0},
	} {
		if got := age.Of(c.now, c.t); !like(got, c.want) {
			t.Errorf("Of(%v, %v): %v, want %v", c.now, c.t, got, c.want)
		}
	}
	for _, bad := range noTimes() {
		for _, x := range append(times(), noTimes()...) {
			if got := age.Of(bad, x); !like(got, 0) {
				t.Errorf("Of(%v, %v): %v", bad, x, got)
			}
			if got := age.Of(x, bad); !like(got, 0) {
				t.Errorf("Of(%v, %v): %v", x, bad, got)
			}
		}
	}
}

// P3.1: Bucket, on what its sentence names, and the chapter's example.
func TestBucket(t *testing.T) {
	for _, c := range []struct{ t, grain, want float64 }{
		{7.5, 2, 3},
		{8, 2, 4},
		{math.Nextafter(8, 0), 2, 3},
		{7, 0.5, 14},
		{0, 3, 0},
		{minus, 3, minus},
		{1, most, 0},
		{least, most, 0},
		{most, most, 1},
		{most, 1, most},
		{1, least, inf},
		{least, least, 1},
		{0.3, 0.1, 2},
		{0.6, 0.2, 2},
		{4.35, 0.01, 434},
		{1, 0.1, 10},
		{7, inf, 0},
		{0, inf, 0},
		{minus, inf, 0},
		{most, inf, 0},
	} {
		if got := age.Bucket(c.t, c.grain); !like(got, c.want) {
			t.Errorf("Bucket(%v, %v): %v, want %v", c.t, c.grain, got, c.want)
		}
	}
	for _, bad := range noTimes() {
		for _, grain := range append(times(), inf, nan, -1) {
			if got := age.Bucket(bad, grain); got == got {
				t.Errorf("Bucket(%v, %v): %v, want NaN", bad, grain, got)
			}
		}
	}
	for _, x := range append(times(), noTimes()...) {
		for _, grain := range []float64{nan, 0, minus, -least, -1, -most, -inf} {
			if got := age.Bucket(x, grain); got == got {
				t.Errorf("Bucket(%v, %v): %v, want NaN", x, grain, got)
			}
		}
	}
}

// P3.1: Same.
func TestSame(t *testing.T) {
	all := append(append(times(), noTimes()...), -1.5)
	for _, a := range all {
		for _, b := range all {
			want := like(a, b) || math.Float64bits(a)<<1 == 0 && math.Float64bits(b)<<1 == 0
			if age.Same(a, b) != want {
				t.Errorf("Same(%v, %v) is %v", a, b, !want)
			}
		}
	}
	if !age.Same(0, minus) || !age.Same(nan, nan) || !age.Same(inf, inf) || age.Same(inf, -inf) || age.Same(nan, 0) || age.Same(0, nan) || age.Same(1, 2) {
		t.Error("Same is wrong on what the chapter names")
	}
}

// P3.1: what is reckoned is the exact sum, age and quotient, each rounded once.
func TestAgainstExact(t *testing.T) {
	r := rand.New(rand.NewSource(3))
	for range 20000 {
		a, b := anyNumber(r), anyNumber(r)
		want, wantErr := wantAfter(a, b)
		if got, err := age.After(a, b); !like(got, want) || err != wantErr {
			t.Fatalf("After(%v, %v): %v, %d, want %v, %d", a, b, got, err, want, wantErr)
		}
		if got, want := age.Of(a, b), wantOf(a, b); !like(got, want) {
			t.Fatalf("Of(%v, %v): %v, want %v", a, b, got, want)
		}
		if got, want := age.Bucket(a, b), wantBucket(a, b); !like(got, want) {
			t.Fatalf("Bucket(%v, %v): %v, want %v", a, b, got, want)
		}
		if got, want := age.Same(a, b), like(a, b) || a == b; got != want {
			t.Fatalf("Same(%v, %v) is %v", a, b, got)
		}
	}
}
