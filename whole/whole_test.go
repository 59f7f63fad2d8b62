package whole

import (
	"math"
	"math/big"
	"slices"
	"testing"
)

const (
	top = math.MaxInt64
	low = math.MinInt64
)

// edges are numbers around which results begin or cease to fit.
func edges() []int64 {
	l := []int64{3037000499, 3037000500, -3037000499, -3037000500, 232792560}
	for _, mid := range []int64{0, 7, -7, 1 << 31, -1 << 31, 1 << 32, -1 << 32, 1 << 62, -1 << 62} {
		l = append(l, mid-2, mid-1, mid, mid+1, mid+2)
	}
	return append(l, low, low+1, low+2, top-2, top-1, top)
}

// chance is a fixed sequence of numbers of all lengths and both signs.
type chance uint64

func (c *chance) next() int64 {
	*c = *c*6364136223846793005 + 1442695040888963407
	x := uint64(*c)
	x ^= x >> 29
	return int64(x) >> (x >> 7 % 64)
}

func product(a, b int64) *big.Int {
	return new(big.Int).Mul(big.NewInt(a), big.NewInt(b))
}

// fitted is what a call answers whose exact result is x.
func fitted(x *big.Int) (int64, bool) {
	if !x.IsInt64() {
		return 0, false
	}
	return x.Int64(), true
}

// floorDiv leans on Euclid's division, which rounds down for a divisor above 0.
func floorDiv(x *big.Int, c int64) *big.Int {
	by := big.NewInt(c)
	if c < 0 {
		x, by = new(big.Int).Neg(x), new(big.Int).Neg(by)
	}
	return new(big.Int).Div(x, by)
}

func checkPair(t *testing.T, a, b int64) {
	t.Helper()
	x, y := big.NewInt(a), big.NewInt(b)
	want, fits := fitted(new(big.Int).Add(x, y))
	if got, ok := Add(a, b); got != want || ok != fits {
		t.Errorf("P1.1: Add(%d, %d) = %d, %v, want %d, %v", a, b, got, ok, want, fits)
	}
	want, fits = fitted(new(big.Int).Sub(x, y))
	if got, ok := Sub(a, b); got != want || ok != fits {
		t.Errorf("P1.1: Sub(%d, %d) = %d, %v, want %d, %v", a, b, got, ok, want, fits)
	}
	want, fits = fitted(product(a, b))
	if got, ok := Mul(a, b); got != want || ok != fits {
		t.Errorf("P1.1: Mul(%d, %d) = %d, %v, want %d, %v", a, b, got, ok, want, fits)
	}
	hi, lo := Wide(a, b)
	got := new(big.Int).Lsh(big.NewInt(hi), 64)
	got.Add(got, new(big.Int).SetUint64(lo))
	if got.Cmp(product(a, b)) != 0 {
		t.Errorf("P1.1: Wide(%d, %d) = %d, %d", a, b, hi, lo)
	}
}

func checkMulDiv(t *testing.T, a, b, c int64) {
	t.Helper()
	var want int64
	var fits bool
	if c != 0 {
		want, fits = fitted(floorDiv(product(a, b), c))
	}
	if got, ok := MulDiv(a, b, c); got != want || ok != fits {
		t.Errorf("P1.1: MulDiv(%d, %d, %d) = %d, %v, want %d, %v", a, b, c, got, ok, want, fits)
	}
}

func checkCmpMul(t *testing.T, a, b, c, d int64) {
	t.Helper()
	if got, want := CmpMul(a, b, c, d), product(a, b).Cmp(product(c, d)); got != want {
		t.Errorf("P1.1: CmpMul(%d, %d, %d, %d) = %d, want %d", a, b, c, d, got, want)
	}
}

func checkSum(t *testing.T, l []int64) {
	t.Helper()
	all := new(big.Int)
	for _, x := range l {
		all.Add(all, big.NewInt(x))
	}
	want, fits := fitted(all)
	if got, ok := Sum(l...); got != want || ok != fits {
		t.Errorf("P1.1: Sum(%d) = %d, %v, want %d, %v", l, got, ok, want, fits)
	}
}

func TestPairs(t *testing.T) {
	for _, a := range edges() {
		for _, b := range edges() {
			checkPair(t, a, b)
		}
	}
	var c chance
	for range 20000 {
		checkPair(t, c.next(), c.next())
	}
}

func TestMulDiv(t *testing.T) {
	if got, ok := MulDiv(-7, 1, 2); got != -4 || !ok {
		t.Errorf("P1.1: MulDiv(-7, 1, 2) = %d, %v, want -4, true", got, ok)
	}
	for _, a := range edges() {
		for _, b := range edges() {
			for _, c := range edges() {
				checkMulDiv(t, a, b, c)
			}
		}
	}
	var c chance
	for range 20000 {
		checkMulDiv(t, c.next(), c.next(), c.next())
	}
}

func TestMulDivAtTheBounds(t *testing.T) {
	for _, c := range []struct {
		a, b, c, want int64
		ok            bool
	}{
		{5, 5, 0, 0, false},
		{0, 0, 0, 0, false},
		{low, low, 0, 0, false},
		{low, low, low, low, true},
		{low, 1, -1, 0, false},
		{low, -1, 1, 0, false},
		// The factors of 2^65 - 1: the half is 2^64 - 1 and a rest, and one more
		// would wrap round to 0.
		{-253921, 145295143558111, 2, 0, false},
		{253921, 145295143558111, 2, 0, false},
		// Exact or rounded, just within the bounds and just out of them.
		{low + 1, 3, 3, low + 1, true},
		{low, 3, 3, low, true},
		{-6148914691236517205, 3, 2, low, true},
		{-6148914691236517206, 3, 2, 0, false},
		{6148914691236517205, 3, 2, top, true},
		{6148914691236517206, 3, 2, 0, false},
		{-1, 1, top, -1, true},
		{1, 1, low, -1, true},
		{-1, 1, low, 0, true},
	} {
		if got, ok := MulDiv(c.a, c.b, c.c); got != c.want || ok != c.ok {
			t.Errorf("P1.1: MulDiv(%d, %d, %d) = %d, %v, want %d, %v", c.a, c.b, c.c, got, ok, c.want, c.ok)
		}
	}
}

func TestHeld(t *testing.T) {
	for _, c := range []struct{ a, lo, hi, want int64 }{
		{2, 1, 3, 2},
		{1, 1, 3, 1},
		{3, 1, 3, 3},
		{0, 1, 3, 1},
		{4, 1, 3, 3},
		{5, 5, 5, 5},
		{6, 5, 5, 5},
		{0, 3, 1, 3},
		{1, 3, 1, 3},
		{2, 3, 1, 3},
		{3, 3, 1, 3},
		{9, 3, 1, 3},
		{low, low, top, low},
		{top, low, top, top},
		{low, top, low, top},
		{top, top, low, top},
		{0, top, low, top},
		{top, low, low, low},
		{low, top, top, top},
	} {
		if got := Held(c.a, c.lo, c.hi); got != c.want {
			t.Errorf("P1.1: Held(%d, %d, %d) = %d, want %d", c.a, c.lo, c.hi, got, c.want)
		}
	}
}

func TestSum(t *testing.T) {
	if got, ok := Sum(); got != 0 || !ok {
		t.Errorf("P1.1: Sum() = %d, %v, want 0, true", got, ok)
	}
	if got, ok := Sum(1, -2, 3); got != 2 || !ok {
		t.Errorf("P1.1: Sum(1, -2, 3) = %d, %v, want 2, true", got, ok)
	}
	for _, l := range [][]int64{
		nil,
		{},
		{low},
		{top},
		{top, 1},
		{low, -1},
		{top, 1, -1},
		{low, -1, 1},
		{top, top, low, low, 5},
		{low, low, top, top},
		{low, low, top, top, 1, 1},
		{low, low, top, top, 1, 1, low, -1},
		// Sums that are 0 modulo 2^64, but not 0.
		{low, low},
		{top, top, 2},
		{low, low, low, low},
	} {
		checkSum(t, l)
	}
	var c chance
	for n := range 2000 {
		l := make([]int64, n%40)
		for i := range l {
			l[i] = c.next()
		}
		checkSum(t, l)
	}
}

func TestSumLeavesItsListAlone(t *testing.T) {
	l := []int64{top, 1, -1, 77, 78}
	Sum(l[:3]...)
	if !slices.Equal(l, []int64{top, 1, -1, 77, 78}) {
		t.Errorf("R4: Sum changed its list: %d", l)
	}
}

func TestWide(t *testing.T) {
	for _, c := range []struct {
		a, b, hi int64
		lo       uint64
	}{
		{2, 3, 0, 6},
		{0, low, 0, 0},
		{-1, 1, -1, math.MaxUint64},
		{1, -1, -1, math.MaxUint64},
		{-1, -1, 0, 1},
		{low, 1, -1, 1 << 63},
		{low, -1, 0, 1 << 63},
		{low, low, 1 << 62, 0},
		{low, top, -1 << 62, 1 << 63},
		{top, top, 1<<62 - 1, 1},
	} {
		if hi, lo := Wide(c.a, c.b); hi != c.hi || lo != c.lo {
			t.Errorf("P1.1: Wide(%d, %d) = %d, %d, want %d, %d", c.a, c.b, hi, lo, c.hi, c.lo)
		}
	}
}

func TestCmpMul(t *testing.T) {
	for _, c := range []struct {
		a, b, c, d int64
		want       int
	}{
		{6, -4, -3, 8, 0},
		{0, low, top, 0, 0},
		{low, low, top, top, 1},
		{low, top, top, low, 0},
		{low, top, low, low, -1},
		// The upper halves are equal, and the lower ones differ in their top bit.
		{top, 1, top, 2, -1},
		{low, 1, -1, 1, -1},
		{-1, 1, low, 1, 1},
	} {
		if got := CmpMul(c.a, c.b, c.c, c.d); got != c.want {
			t.Errorf("P1.1: CmpMul(%d, %d, %d, %d) = %d, want %d", c.a, c.b, c.c, c.d, got, c.want)
		}
	}
	few := []int64{low, low + 1, -1 << 32, -2, -1, 0, 1, 2, 3, 1 << 32, top - 1, top}
	for _, a := range few {
		for _, b := range few {
			for _, c := range few {
				for _, d := range few {
					checkCmpMul(t, a, b, c, d)
				}
			}
		}
	}
	var c chance
	for range 20000 {
		checkCmpMul(t, c.next(), c.next(), c.next(), c.next())
	}
}
