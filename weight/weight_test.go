package weight

import (
	"math"
	"math/big"
	"slices"
	"testing"

	"stadholder/api"
)

const (
	top = math.MaxInt64
	low = math.MinInt64
)

// amounts are numbers to share out, around 0 and around what overflows.
func amounts() []int64 {
	l := []int64{low, low + 1, -1 << 40, -2, -1}
	for _, mid := range []int64{2, 21, 1280, 1 << 40, top / 1280, top / 20} {
		l = append(l, mid-2, mid-1, mid, mid+1, mid+2)
	}
	return append(l, top-1, top)
}

// repeated is a list of n equal weights.
func repeated(w, n int) []int {
	return slices.Repeat([]int{w}, n)
}

// chance is a fixed sequence of numbers of all lengths, from 0 on.
type chance uint64

func (c *chance) next() int64 {
	*c = *c*6364136223846793005 + 1442695040888963407
	x := uint64(*c)
	x ^= x >> 29
	return int64(x >> 1 >> (x >> 7 % 63))
}

// weights is a list of n weights; few kinds make for many equal ones.
func (c *chance) weights(n int, kinds int64) []int {
	l := make([]int, n)
	for i := range l {
		l[i] = 1 + int(c.next()>>3%kinds)
	}
	return l
}

func TestGoodAndStep(t *testing.T) {
	for _, w := range []int{low, low + 1, -20, -1, 0, 21, 22, 1 << 32, 1<<32 + 1, top} {
		if Good(w) {
			t.Errorf("P2.1: Good(%d) = true", w)
		}
		if got := Step(w); got != 0 {
			t.Errorf("P2.1: Step(%d) = %d, want 0", w, got)
		}
	}
	for w := 1; w <= api.MaxWeight; w++ {
		if !Good(w) {
			t.Errorf("P2.1: Good(%d) = false", w)
		}
		if got := Step(w); got*int64(w) != api.Scale {
			t.Errorf("P2.1: Step(%d) = %d", w, got)
		}
	}
	if got := Step(4); got != 58198140 {
		t.Errorf("P2.1: Step(4) = %d, want 58198140", got)
	}
}

func TestTotal(t *testing.T) {
	for _, c := range []struct {
		l    []int
		want int
		ok   bool
	}{
		{nil, 0, true},
		{[]int{}, 0, true},
		{[]int{1}, 1, true},
		{[]int{20}, 20, true},
		{[]int{3, 1, 20, 3}, 27, true},
		{repeated(1, 64), 64, true},
		{repeated(20, 64), 1280, true},
		{repeated(1, 65), 0, false},
		{repeated(20, 65), 0, false},
		{repeated(0, 65), 0, false},
		{[]int{0}, 0, false},
		{[]int{21}, 0, false},
		{[]int{-1}, 0, false},
		{[]int{0, 5}, 0, false},
		{[]int{5, 0}, 0, false},
		{[]int{5, 21, 5}, 0, false},
		{[]int{-1, 5}, 0, false},
		{[]int{top, 5}, 0, false},
		{[]int{low, 5}, 0, false},
		{append(repeated(20, 63), 21), 0, false},
	} {
		if got, ok := Total(c.l); got != c.want || ok != c.ok {
			t.Errorf("P2.1: Total(%d) = %d, %v, want %d, %v", c.l, got, ok, c.want, c.ok)
		}
	}
}

// exact is Share and Off by exact arithmetic, for arguments that may be.
func exact(w, total int, n, got int64) (share, off int64) {
	claim := new(big.Int).Mul(big.NewInt(n), big.NewInt(int64(w)))
	diff := new(big.Int).Mul(big.NewInt(got), big.NewInt(int64(total)))
	diff.Sub(diff, claim)
	share = new(big.Int).Div(claim, big.NewInt(int64(total))).Int64()
	round := new(big.Int).Lsh(big.NewInt(1), 64)
	return share, int64(diff.Mod(diff, round).Uint64())
}

func checkShare(t *testing.T, w, total int, n, got int64) {
	t.Helper()
	var share, off int64
	if w >= 1 && w <= 20 && total >= w && total <= 1280 && n >= 0 {
		share, off = exact(w, total, n, got)
	}
	if x := Share(w, total, n); x != share {
		t.Errorf("P2.1: Share(%d, %d, %d) = %d, want %d", w, total, n, x, share)
	}
	if x := Off(w, total, n, got); x != off {
		t.Errorf("P2.1: Off(%d, %d, %d, %d) = %d, want %d", w, total, n, got, x, off)
	}
}

func TestShareAndOff(t *testing.T) {
	some := []int{low, -1280, -20, -1, 0, 1, 2, 3, 7, 19, 20, 21, 22, 64, 1279, 1280, 1281, 1 << 40, top}
	for _, w := range some {
		for _, total := range some {
			for _, n := range amounts() {
				for _, got := range []int64{low, -1, 0, 1, 3, 1 << 40, top} {
					checkShare(t, w, total, n, got)
				}
			}
		}
	}
	var c chance
	for range 20000 {
		w := 1 + int(c.next()>>3%20)
		total := w + int(c.next()>>3%1300)
		checkShare(t, w, total, c.next(), c.next()-c.next())
	}
}

func TestShareAndOffByHand(t *testing.T) {
	for _, c := range []struct {
		w, total           int
		n, got, share, off int64
	}{
		{1, 3, 4, 1, 1, -1},
		{2, 3, 4, 2, 2, -2},
		{2, 3, 4, 3, 2, 1},
		{2, 3, 3, 2, 2, 0},
		{2, 3, 3, -1, 2, -9},
		{20, 20, top, 0, top, 20},
		{1, 1280, 0, 7, 0, 8960},
		{1, 2, 1, top, 0, -3},
		{1, 2, 1, low, 0, -1},
		// What may not be has no difference, however much it got.
		{0, 3, 4, 9, 0, 0},
		{21, 30, 4, 9, 0, 0},
		{3, 2, 4, 9, 0, 0},
		{1, 0, 4, 9, 0, 0},
		{1, -3, 4, 9, 0, 0},
		{1, 1281, 4, 9, 0, 0},
		{1, 3, -1, 9, 0, 0},
		{1, 3, low, 9, 0, 0},
	} {
		if got := Share(c.w, c.total, c.n); got != c.share {
			t.Errorf("P2.1: Share(%d, %d, %d) = %d, want %d", c.w, c.total, c.n, got, c.share)
		}
		if got := Off(c.w, c.total, c.n, c.got); got != c.off {
			t.Errorf("P2.1: Off(%d, %d, %d, %d) = %d, want %d", c.w, c.total, c.n, c.got, got, c.off)
		}
	}
}

// plainParts gives the rest out one by one, each time looking all through for
// the one that is furthest behind and has none of it yet.
func plainParts(l []int, n int64) []int64 {
	total := int64(0)
	for _, w := range l {
		total += int64(w)
	}
	parts := make([]int64, len(l))
	rest := n
	for i, w := range l {
		parts[i] = n * int64(w) / total
		rest -= parts[i]
	}
	served := make([]bool, len(l))
	for ; rest > 0; rest-- {
		next, least := -1, int64(0)
		for i, w := range l {
			off := n*int64(w)/total*total - n*int64(w)
			if !served[i] && (next < 0 || off < least) {
				next, least = i, off
			}
		}
		parts[next]++
		served[next] = true
	}
	return parts
}

func checkParts(t *testing.T, l []int, n int64) {
	t.Helper()
	got := Parts(l, n)
	if want := plainParts(l, n); !slices.Equal(got, want) {
		t.Errorf("P2.1: Parts(%d, %d) = %d, want %d", l, n, got, want)
	}
	all := int64(0)
	for _, part := range got {
		all += part
	}
	if all != n {
		t.Errorf("P2.1: Parts(%d, %d) = %d gives out %d", l, n, got, all)
	}
}

func TestParts(t *testing.T) {
	for _, c := range []struct {
		l    []int
		n    int64
		want []int64
	}{
		{[]int{1, 2}, 4, []int64{1, 3}},
		{[]int{2, 1}, 4, []int64{3, 1}},
		{[]int{5}, 0, []int64{0}},
		{[]int{5}, 9, []int64{9}},
		{[]int{1, 1, 1}, 1, []int64{1, 0, 0}},
		{[]int{1, 1, 1}, 2, []int64{1, 1, 0}},
		{[]int{1, 1, 1}, 3, []int64{1, 1, 1}},
		{[]int{3, 3, 1}, 2, []int64{1, 1, 0}},
		{[]int{1, 3, 3}, 1, []int64{0, 1, 0}},
		{[]int{1, 3, 3}, 4, []int64{0, 2, 2}},
		{[]int{7}, 1 << 40, []int64{1 << 40}},
		{[]int{1, 1}, 1<<40 - 1, []int64{1 << 39, 1<<39 - 1}},
	} {
		if got := Parts(c.l, c.n); !slices.Equal(got, c.want) {
			t.Errorf("P2.1: Parts(%d, %d) = %d, want %d", c.l, c.n, got, c.want)
		}
	}
	for n := range int64(300) {
		for _, l := range [][]int{{1, 2}, {2, 1, 2, 1}, {20, 1, 1, 7}, {3, 3, 3, 3, 3, 3, 3}, repeated(1, 64), repeated(20, 64)} {
			checkParts(t, l, n)
		}
	}
	var c chance
	for n := range 3000 {
		l := c.weights(1+n%api.MaxTasks, 1+int64(n)%api.MaxWeight)
		checkParts(t, l, c.next()%(1<<40+1))
		checkParts(t, l, 1<<40)
	}
}

func TestPartsOfNothing(t *testing.T) {
	for _, c := range []struct {
		l []int
		n int64
	}{
		{nil, 0},
		{nil, 5},
		{[]int{}, 5},
		{nil, -1},
		{[]int{1, 2}, -1},
		{[]int{1, 2}, low},
		{[]int{1, 2}, 1<<40 + 1},
		{[]int{1, 2}, top},
		{[]int{1, 0}, 4},
		{[]int{21, 1}, 4},
		{[]int{-1, 2}, 4},
		{repeated(1, 65), 65},
	} {
		if got := Parts(c.l, c.n); len(got) != 0 {
			t.Errorf("P2.1: Parts(%d, %d) = %d, want none", c.l, c.n, got)
		}
	}
}

func TestListsAreLeftAlone(t *testing.T) {
	room := []int{3, 1, 2, 77, 78}
	l := room[:3]
	Total(l)
	first := Parts(l, 10)
	if !slices.Equal(room, []int{3, 1, 2, 77, 78}) {
		t.Errorf("R4: a list was changed: %d", room)
	}
	kept := slices.Clone(first)
	second := Parts(l, 10)
	for i := range second[:cap(second)] {
		second[:cap(second)][i] = -1
	}
	if !slices.Equal(first, kept) {
		t.Errorf("R4: two results share memory: %d", first)
	}
}
