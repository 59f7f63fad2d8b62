package load

import (
	"fmt"
	"math"
	"math/big"
	"slices"
	"testing"

	"stadholder/mask"
)

const (
	top = math.MaxInt64
	low = math.MinInt64
	// most is the greatest load among which tasks move.
	most = 1 << 40
)

// chance answers numbers without order, the same ones at every run.
type chance uint64

func (c *chance) below(n int) int {
	*c = *c*6364136223846793005 + 1442695040888963407
	return int(uint64(*c) >> 33 % uint64(n))
}

func task(id, w, core int, cores ...int) Task {
	return Task{ID: id, W: w, Core: core, Mask: mask.Of(cores...)}
}

// bits are the cores of a mask that have a load, rising, by division alone.
func bits(m mask.Mask, cores int) []int {
	var l []int
	rest := int(m)
	for c := range 16 {
		if rest%2 == 1 && c < cores {
			l = append(l, c)
		}
		rest /= 2
	}
	return l
}

// least is the first core of those that no other one of them has less than.
func least(loads []int64, cores []int) int {
	for _, c := range cores {
		if !slices.ContainsFunc(cores, func(d int) bool { return loads[d] < loads[c] }) {
			return c
		}
	}
	return -1
}

// greatest is the first core that none has more than.
func greatest(loads []int64) int {
	for c, x := range loads {
		if !slices.ContainsFunc(loads, func(y int64) bool { return y > x }) {
			return c
		}
	}
	return -1
}

// gap is the difference as a whole, of which the low 64 bits are kept.
func gap(loads []int64) int64 {
	if len(loads) == 0 {
		return 0
	}
	rising := slices.Sorted(slices.Values(loads))
	d := new(big.Int).Sub(big.NewInt(rising[len(rising)-1]), big.NewInt(rising[0]))
	return int64(d.Mod(d, new(big.Int).Lsh(big.NewInt(1), 64)).Uint64())
}

// valid is the chapter's list of what tasks can move among, each point asked
// by itself.
func valid(loads []int64, l []Task) bool {
	for _, x := range loads {
		if x < 0 || x > 1099511627776 {
			return false
		}
	}
	for _, x := range l {
		if x.W < 1 || x.W > 20 || x.Core < 0 || x.Core > len(loads)-1 {
			return false
		}
	}
	return true
}

// leads tells to which core a task would move, or -1.
func leads(loads []int64, x Task) int {
	from := greatest(loads)
	if x.Core != from {
		return -1
	}
	others := slices.DeleteFunc(bits(x.Mask, len(loads)), func(c int) bool { return c == from })
	to := least(loads, others)
	if to >= 0 && loads[to]+int64(x.W) >= loads[from] {
		return -1
	}
	return to
}

// move tells the place of the task that moves, or -1, and where it leads.
func move(loads []int64, l []Task) (int, int) {
	if !valid(loads, l) {
		return -1, -1
	}
	for w := 20; w >= 1; w-- {
		for at, x := range l {
			if to := leads(loads, x); x.W == w && to >= 0 {
				return at, to
			}
		}
	}
	return -1, -1
}

// even moves one after the other, and tells the loads too.
func even(loads []int64, l []Task, n int) ([]int64, []Task) {
	loads, l = slices.Clone(loads), slices.Clone(l)
	for made := 0; made < n && made < 1000; made++ {
		at, to := move(loads, l)
		if at < 0 {
			break
		}
		loads[l[at].Core] -= int64(l[at].W)
		loads[to] += int64(l[at].W)
		l[at].Core = to
	}
	return loads, l
}

// same holds Least, Most and Gap against plain lists, for loads of any kind.
func same(t *testing.T, loads []int64, masks ...mask.Mask) {
	t.Helper()
	for _, m := range masks {
		want := least(loads, bits(m, len(loads)))
		if c, ok := Least(loads, m); ok != (want >= 0) || c != max(want, 0) {
			t.Errorf("P16.1: Least(%d, %#x) = %d, %v, want %d", loads, m, c, ok, want)
		}
	}
	want := greatest(loads)
	if c, ok := Most(loads); ok != (want >= 0) || c != max(want, 0) {
		t.Errorf("P16.1: Most(%d) = %d, %v, want %d", loads, c, ok, want)
	}
	if got := Gap(loads); got != gap(loads) {
		t.Errorf("P16.1: Gap(%d) = %d, want %d", loads, got, gap(loads))
	}
}

// moves holds Move against the model.
func moves(t *testing.T, loads []int64, l []Task) {
	t.Helper()
	at, to := move(loads, l)
	id, c, ok := Move(loads, l)
	if at < 0 {
		if id != 0 || c != 0 || ok {
			t.Errorf("P16.1, R2: Move(%d, %v) = %d, %d, %v, want none", loads, l, id, c, ok)
		}
		return
	}
	if id != l[at].ID || c != to || !ok {
		t.Errorf("P16.1: Move(%d, %v) = %d, %d, %v, want %d, %d", loads, l, id, c, ok, l[at].ID, to)
	}
}

// evens holds Even against the model.
func evens(t *testing.T, loads []int64, l []Task, n int) {
	t.Helper()
	_, want := even(loads, l, n)
	if got := Even(loads, l, n); !slices.Equal(got, want) {
		t.Errorf("P16.1: Even(%d, %v, %d) = %v, want %v", loads, l, n, got, want)
	}
}

func TestLoads(t *testing.T) {
	many := make([]int64, 40)
	for c := range many {
		many[c] = int64((c * 7) % 40)
	}
	for _, c := range []struct {
		loads []int64
		m     mask.Mask
		// -1 stands for none.
		least, most int
		gap         int64
	}{
		{nil, 0, -1, -1, 0},
		{nil, 0xffff, -1, -1, 0},
		{[]int64{}, 1, -1, -1, 0},
		{[]int64{0}, 1, 0, 0, 0},
		{[]int64{-9}, 0xffff, 0, 0, 0},
		{[]int64{top}, 1, 0, 0, 0},
		{[]int64{5}, 0, -1, 0, 0},
		{[]int64{5}, 0xfffe, -1, 0, 0},
		{[]int64{5, 1}, 3, 1, 0, 4},
		{[]int64{5, 1}, 1, 0, 0, 4},
		{[]int64{1, 5}, 2, 1, 1, 4},
		{[]int64{3, 3, 3}, 7, 0, 0, 0},
		{[]int64{3, 3, 3}, 6, 1, 0, 0},
		{[]int64{4, 1, 2, 1, 4}, 0b11111, 1, 0, 3},
		{[]int64{4, 1, 2, 1, 9, 9}, 0b111101, 3, 4, 8},
		{[]int64{-5, -7, -7, -5}, 0b1111, 1, 0, 2},
		{[]int64{low, top}, 3, 0, 1, -1},
		{[]int64{top, low}, 3, 1, 0, -1},
		{[]int64{top, top - 1}, 3, 1, 0, 1},
		{[]int64{low, 0}, 3, 0, 1, low},
		{[]int64{low + 1, 0}, 3, 0, 1, top},
		{[]int64{1 << 62, -1 << 62}, 3, 1, 0, low},
		{[]int64{most + 1, -1}, 3, 1, 0, most + 2},
		{make([]int64, 16), 0x8000, 15, 0, 0},
		// A load that no mask reaches counts for Most and Gap all the same.
		{append(make([]int64, 16), 1), 0xffff, 0, 16, 1},
		{append(make([]int64, 16), -1), 0xffff, 0, 0, 1},
		{append(make([]int64, 20), 8, 8), 0x8000, 15, 20, 8},
		{many, 0xffff, 0, 17, 39},
	} {
		a, ok := Least(c.loads, c.m)
		if ok != (c.least >= 0) || a != max(c.least, 0) {
			t.Errorf("P16.1: Least(%d, %#x) = %d, %v, want %d", c.loads, c.m, a, ok, c.least)
		}
		b, ok := Most(c.loads)
		if ok != (c.most >= 0) || b != max(c.most, 0) {
			t.Errorf("P16.1: Most(%d) = %d, %v, want %d", c.loads, b, ok, c.most)
		}
		if got := Gap(c.loads); got != c.gap {
			t.Errorf("P16.1: Gap(%d) = %d, want %d", c.loads, got, c.gap)
		}
		same(t, c.loads, c.m)
	}
}

// TestLoadsAll takes each mask and each list of few loads that are near one
// another, at both ends of the numbers and amid.
func TestLoadsAll(t *testing.T) {
	masks := []mask.Mask{16, 17, 0x8000, 0xfff8, 0xffff}
	for m := range mask.Mask(16) {
		masks = append(masks, m)
	}
	values := []int64{low, low + 1, -1, 0, 1, top}
	for n := range 5 {
		for x := range int(math.Pow(float64(len(values)), float64(n))) {
			loads := make([]int64, n)
			for c := range loads {
				loads[c] = values[x%len(values)]
				x /= len(values)
			}
			same(t, loads, masks...)
		}
	}
}

func TestMove(t *testing.T) {
	three := []int64{20, 5, 2}
	for _, c := range []struct {
		why    string
		loads  []int64
		l      []Task
		id, to int // -1 stands for none
	}{
		{"the chapter's example", []int64{5, 1}, []Task{task(7, 2, 0, 0, 1)}, 7, 1},
		{"less by W only", []int64{5, 3}, []Task{task(7, 2, 0, 0, 1)}, -1, 0},
		{"less by W and one", []int64{6, 3}, []Task{task(7, 2, 0, 0, 1)}, 7, 1},
		{"equal loads", []int64{3, 3}, []Task{task(7, 1, 0, 0, 1), task(8, 1, 1, 0, 1)}, -1, 0},
		{"its mask without its core", []int64{9, 1}, []Task{task(7, 2, 0, 1)}, 7, 1},
		{"its own core alone", []int64{9, 1}, []Task{task(7, 2, 0, 0)}, -1, 0},
		{"an empty mask", []int64{9, 1}, []Task{task(7, 2, 0)}, -1, 0},
		{"a mask beyond the loads", []int64{9, 1}, []Task{task(7, 2, 0, 0, 2, 15)}, -1, 0},
		{"a mask partly beyond them", []int64{9, 1}, []Task{task(7, 2, 0, 1, 2, 15)}, 7, 1},
		{"on the other core", []int64{9, 1}, []Task{task(7, 2, 1, 0, 1)}, -1, 0},
		{"to the left", []int64{1, 9}, []Task{task(7, 2, 1, 0, 1)}, 7, 0},
		{"the greatest W", []int64{30, 1}, []Task{task(1, 2, 0, 1), task(2, 5, 0, 1), task(3, 4, 0, 1)}, 2, 1},
		{"the greatest W at last", []int64{30, 1}, []Task{task(1, 2, 0, 1), task(2, 5, 0, 1), task(3, 6, 0, 1)}, 3, 1},
		{"the first of equal ones", []int64{30, 1}, []Task{task(9, 2, 0, 1), task(8, 5, 0, 1), task(1, 5, 0, 1)}, 8, 1},
		{"the greatest W that may", []int64{9, 1}, []Task{task(1, 8, 0, 1), task(2, 7, 0, 1), task(3, 1, 0, 1)}, 2, 1},
		{"each to where its mask leads", three, []Task{task(1, 15, 0, 1), task(2, 14, 0, 1, 2)}, 2, 2},
		{"the greater W to the greater load", three, []Task{task(1, 14, 0, 1), task(2, 13, 0, 2)}, 1, 1},
		{"the least of its mask", []int64{9, 5, 2, 2}, []Task{task(1, 3, 0, 0, 1, 2, 3)}, 1, 2},
		{"the last of its mask", []int64{9, 5, 2, 2}, []Task{task(1, 3, 0, 0, 1, 3)}, 1, 3},
		{"the first of the greatest loads", []int64{2, 9, 9}, []Task{task(1, 3, 2, 0), task(2, 1, 1, 0)}, 2, 0},
		{"none on the first of them", []int64{2, 9, 9}, []Task{task(1, 3, 2, 0)}, -1, 0},
		{"nothing weighed", []int64{0, 0, 0}, []Task{task(1, 1, 0, 1, 2)}, -1, 0},
		{"W 1 and load 1", []int64{1, 0}, []Task{task(1, 1, 0, 1)}, -1, 0},
		{"W 20", []int64{21, 0}, []Task{task(1, 20, 0, 1)}, 1, 1},
		{"the greatest load", []int64{0, most}, []Task{task(1, 20, 1, 0)}, 1, 0},
		{"ID 0", []int64{5, 1}, []Task{task(0, 2, 0, 0, 1)}, 0, 1},
		{"any ID", []int64{5, 1}, []Task{task(low, 2, 0, 0, 1), task(top, 3, 0, 0, 1)}, top, 1},
		{"from core 15", append(make([]int64, 15), 9), []Task{task(1, 2, 15, 15, 14)}, 1, 14},
		{"from core 16", append(make([]int64, 16), 9), []Task{task(1, 2, 16, 0)}, 1, 0},
		{"from core 19, and to core 3", append([]int64{1, 1, 1, 0}, append(make([]int64, 15), 9)...), []Task{task(1, 2, 19, 0, 3)}, 1, 3},
		{"not to core 16", append([]int64{9, 8}, make([]int64, 15)...), []Task{task(1, 2, 0, 0, 1)}, -1, 0},
		{"no tasks", []int64{9, 1}, nil, -1, 0},
		{"no loads", nil, nil, -1, 0},
		{"no loads, but a task", nil, []Task{task(1, 1, 0, 0)}, -1, 0},
		{"one core", []int64{9}, []Task{task(1, 2, 0, 0, 1)}, -1, 0},
	} {
		id, to, ok := Move(c.loads, c.l)
		if ok != (c.id >= 0) || id != max(c.id, 0) || to != c.to {
			t.Errorf("P16.1: Move, %s: %d, %d, %v, want %d, %d", c.why, id, to, ok, c.id, c.to)
		}
		moves(t, c.loads, c.l)
	}
}

// TestMoveAll takes each pair of tasks on each of three cores with few loads.
func TestMoveAll(t *testing.T) {
	var tasks []Task
	for w := range 4 {
		for core := range 3 {
			for m := range mask.Mask(8) {
				tasks = append(tasks, Task{ID: len(tasks) + 1, W: w + 1, Core: core, Mask: m})
			}
		}
	}
	for _, loads := range [][]int64{{5, 3, 0}, {3, 5, 5}, {1, 2, 4}, {2, 2, 2}, {0, 6, 2}} {
		for _, a := range tasks {
			for _, b := range tasks {
				moves(t, loads, []Task{a, b})
				evens(t, loads, []Task{a, b}, 3)
			}
		}
	}
}

func wrongLoads() []int64 {
	return []int64{low, low + 1, -most, -1 << 32, -1, most + 1, most + 2, top - 1, top}
}

func wrongWeights() []int {
	return []int{low, low + 1, 1 - 1<<32, -20, -1, 0, 21, 22, 256 + 1, 1<<32 + 1, top}
}

func wrongCores(cores int) []int {
	return []int{low, low + 1, -1 << 32, -16, -1, cores, cores + 1, 16, 256, 1 << 32, 1<<32 + 1, top}
}

// still holds that nothing moves, though it would if one number were another.
func still(t *testing.T, why string, loads []int64, l []Task) {
	t.Helper()
	if id, to, ok := Move(loads, l); id != 0 || to != 0 || ok {
		t.Errorf("P16.1, R2: %s: Move(%d, %v) = %d, %d, %v", why, loads, l, id, to, ok)
	}
	for _, n := range []int{low, -1, 0, 1, 2, 1000, 1001, top} {
		if got := Even(loads, l, n); !slices.Equal(got, l) {
			t.Errorf("P16.1: %s: Even(%d, %v, %d) = %v", why, loads, l, n, got)
		}
	}
}

func TestWrong(t *testing.T) {
	loads := []int64{9, most, 1, 3}
	l := []Task{task(1, 2, 1, 0, 2), task(2, 3, 1, 3), task(3, 1, 0, 2), task(4, 1, 2), task(5, 1, 1)}
	if id, to, ok := Move(loads, l); id != 2 || to != 3 || !ok {
		t.Fatalf("P16.1: Move: %d, %d, %v, want 2, 3", id, to, ok)
	}
	for c := range loads {
		for _, x := range wrongLoads() {
			bad := slices.Clone(loads)
			bad[c] = x
			still(t, "a load", bad, l)
		}
	}
	for at := range l {
		for _, w := range wrongWeights() {
			bad := slices.Clone(l)
			bad[at].W = w
			still(t, "a weight", loads, bad)
		}
		for _, c := range wrongCores(len(loads)) {
			bad := slices.Clone(l)
			bad[at].Core = c
			still(t, "a core", loads, bad)
		}
	}
	still(t, "a load that no mask reaches", append(append([]int64{9, most}, make([]int64, 20)...), most+1), l)
	still(t, "no loads", nil, l)
}

// TestRight takes what is just not wrong.
func TestRight(t *testing.T) {
	for _, x := range []int64{0, 1, most - 1, most} {
		for w := 1; w <= 20; w++ {
			for c := range 4 {
				l := []Task{task(1, w, c, 0, 1, 2, 3), task(2, 21-w, 3-c, 3, 2, 1, 0)}
				for at := range 4 {
					loads := []int64{70, 50, 30, 10}
					loads[at] = x
					moves(t, loads, l)
					evens(t, loads, l, 9)
				}
			}
		}
	}
}

func TestEven(t *testing.T) {
	twos := []Task{task(1, 2, 0, 0, 1), task(2, 2, 0, 0, 1), task(3, 2, 0, 0, 1)}
	six := []Task{task(1, 6, 0, 0, 1, 2), task(2, 5, 0, 0, 1, 2), task(3, 4, 0, 0, 1, 2),
		task(4, 3, 0, 0, 1, 2), task(5, 2, 0, 0, 1, 2), task(6, 1, 0, 0)}
	// Of two tasks with one ID, the one that is chosen moves.
	twins := []Task{task(1, 1, 0, 1), task(1, 3, 0, 1), task(1, 2, 1, 0)}
	// What one brings to a core can let another one leave it.
	chain := []Task{task(1, 20, 0, 1), task(2, 9, 1, 2)}
	for _, c := range []struct {
		loads []int64
		l     []Task
		most  int
		cores []int
	}{
		{[]int64{6, 0}, twos, low, []int{0, 0, 0}},
		{[]int64{6, 0}, twos, -1, []int{0, 0, 0}},
		{[]int64{6, 0}, twos, 0, []int{0, 0, 0}},
		{[]int64{6, 0}, twos, 1, []int{1, 0, 0}},
		{[]int64{6, 0}, twos, top, []int{1, 0, 0}},
		{[]int64{7, 0}, twos, 2, []int{1, 1, 0}},
		{[]int64{0, 7}, twos, 2, []int{0, 0, 0}},
		{[]int64{21, 0, 0}, six, 1, []int{1, 0, 0, 0, 0, 0}},
		{[]int64{21, 0, 0}, six, 2, []int{1, 2, 0, 0, 0, 0}},
		{[]int64{21, 0, 0}, six, 3, []int{1, 2, 2, 0, 0, 0}},
		{[]int64{21, 0, 0}, six, 1 << 32, []int{1, 2, 2, 0, 0, 0}},
		{[]int64{6, 2}, twins, 1, []int{0, 1, 1}},
		{[]int64{9, 0}, twins, 9, []int{1, 1, 1}},
		{[]int64{30, 9, 0}, chain, 1, []int{1, 1}},
		{[]int64{30, 9, 0}, chain, 2, []int{1, 2}},
		{[]int64{30, 10, 0}, chain, 2, []int{0, 1}},
		{[]int64{5}, twos, 9, []int{0, 0, 0}},
		{[]int64{5, 1}, nil, 9, nil},
		{[]int64{most + 1, 1}, nil, 9, nil},
		{nil, nil, 9, nil},
	} {
		want := slices.Clone(c.l)
		for at, core := range c.cores {
			want[at].Core = core
		}
		if got := Even(c.loads, c.l, c.most); !slices.Equal(got, want) {
			t.Errorf("P16.1: Even(%d, %v, %d) = %v, want %v", c.loads, c.l, c.most, got, want)
		}
		evens(t, c.loads, c.l, c.most)
	}
}

// TestEvenMost counts the moves of more tasks than may move.
func TestEvenMost(t *testing.T) {
	l := make([]Task, 1500)
	for at := range l {
		l[at] = task(at, 1, 0, 0, 1)
	}
	for _, c := range []struct{ most, moved int }{
		{low, 0}, {-1000, 0}, {-1, 0}, {0, 0}, {1, 1}, {2, 2}, {500, 500}, {999, 999}, {1000, 1000},
		{1001, 1000}, {1024, 1000}, {1200, 1000}, {1 << 32, 1000}, {1<<32 + 5, 1000}, {top, 1000},
	} {
		moved := 0
		for at, x := range Even([]int64{5000, 0}, l, c.most) {
			if x.Core == 1 && at == moved {
				moved++
			}
		}
		if moved != c.moved {
			t.Errorf("P16.1: Even(.., %d) makes %d moves, want %d", c.most, moved, c.moved)
		}
	}
	// It is the bound that ended it: the others follow in another call.
	rest := Even([]int64{4000, 1000}, Even([]int64{5000, 0}, l, top), top)
	if slices.ContainsFunc(rest, func(x Task) bool { return x.Core == 0 }) {
		t.Errorf("P16.1: Even after Even leaves tasks on core 0")
	}
}

// loads are of few cores, and near one another, so that many are equal.
func (c *chance) loads(cores int) []int64 {
	l, from, span := make([]int64, cores), c.below(30), 1+c.below(80)
	for x := range l {
		l[x] = int64(from + c.below(span))
	}
	return l
}

// tasks are on cores by chance, and their masks contain few cores or many.
func (c *chance) tasks(cores, n int) []Task {
	l, span := make([]Task, n), 1+c.below(20)
	for x := range l {
		m := c.below(1 << 16)
		if c.below(2) == 0 {
			m |= c.below(1 << 16)
		}
		l[x] = Task{ID: c.below(n), W: 1 + c.below(span), Core: c.below(cores), Mask: mask.Mask(m)}
	}
	return l
}

func TestPlay(t *testing.T) {
	c := chance(1)
	made := 0
	for range 6000 {
		cores := 1 + c.below(6)
		if c.below(8) == 0 {
			cores = 1 + c.below(20)
		}
		loads, l := c.loads(cores), c.tasks(cores, 1+c.below(12))
		same(t, loads, l[0].Mask)
		moves(t, loads, l)
		n := []int{0, 1, 2, 3, 1000, top}[c.below(6)]
		evens(t, loads, l, n)
		if !slices.Equal(Even(loads, l, n), l) {
			made++
		}
		if n < 1000 {
			continue
		}
		// What Even leaves is even.
		after, rest := even(loads, l, n)
		if id, to, ok := Move(after, rest); id != 0 || to != 0 || ok || Gap(after) > Gap(loads) {
			t.Errorf("P16.1: after Even(%d, %v, %d), Move = %d, %d, %v", loads, l, n, id, to, ok)
		}
	}
	if made < 1000 {
		t.Errorf("only %d of the plays moved a task", made)
	}
}

// TestOwnMemory holds that arguments stay as they were, with what lies behind
// them, and that results are apart from them and from one another.
func TestOwnMemory(t *testing.T) {
	for _, bad := range []int64{0, -1, most + 1} {
		loads := []int64{70, 3, bad, 77, 77}
		l := []Task{task(1, 2, 0, 1), task(2, 3, 0, 1), task(3, 4, 0, 1), task(4, 5, 5, 5), task(5, 6, 6, 6)}
		loadsWere, were := slices.Clone(loads), slices.Clone(l)
		Least(loads[:3], 7)
		Most(loads[:3])
		Gap(loads[:3])
		Move(loads[:3], l[:3])
		for _, n := range []int{0, 2, 9} {
			a, b := Even(loads[:3], l[:3], n), Even(loads[:3], l[:3], n)
			want := slices.Clone(b)
			a = a[:cap(a)]
			for at := range a {
				a[at] = task(99, 9, 9, 9)
			}
			if !slices.Equal(b, want) {
				t.Errorf("R4: Even: two results share memory")
			}
			_ = append(b, a...)
			clear(b)
		}
		if !slices.Equal(loads, loadsWere) || !slices.Equal(l, were) {
			t.Errorf("R4: loads %d, tasks %v, want %d, %v", loads, l, loadsWere, were)
		}
	}
}

// TestOften holds that a result depends on the arguments alone.
func TestOften(t *testing.T) {
	loads, l := []int64{21, 0, 4}, []Task{task(1, 6, 0, 1, 2), task(2, 5, 0, 1), task(3, 3, 2, 1)}
	var first string
	for n := range 20 {
		least, is := Least(loads, 6)
		most, has := Most(loads)
		id, to, ok := Move(loads, l)
		got := fmt.Sprint(least, is, most, has, Gap(loads), id, to, ok, Even(loads, l, 9))
		if n == 0 {
			first = got
		}
		if got != first {
			t.Errorf("R5: %s, and once %s", got, first)
		}
		Even([]int64{int64(n), 9}, l, n)
		Move([]int64{1, 2, int64(n) - 3}, l)
	}
}
