package groups

import (
	"math"
	"slices"
	"testing"

	"stadholder/api"
)

const (
	top = math.MaxInt
	low = math.MinInt
)

// chance is a fixed sequence of numbers, from 0 on.
type chance uint64

func (c *chance) next(n int) int {
	*c = *c*6364136223846793005 + 1442695040888963407
	x := uint64(*c)
	x ^= x >> 29
	return int((x >> 8) % uint64(n))
}

// model is a list of chains: each group has its own written out, from itself
// up to 0. It knows neither a tree nor the numbers of package api.
type model [][]int

func (m model) at(id int) int {
	return slices.IndexFunc(m, func(chain []int) bool { return chain[0] == id })
}

func (m model) chain(id int) []int {
	if at := m.at(id); at >= 0 {
		return m[at]
	}
	return nil
}

func (m model) all() []int {
	var l []int
	for _, chain := range m {
		l = append(l, chain[0])
	}
	slices.Sort(l)
	return l
}

func (m *model) add(up int) (int, api.Errno) {
	chain := m.chain(up)
	if chain == nil {
		return 0, api.EID
	}
	if len(chain) == 4 {
		return 0, api.EDEPTH
	}
	if len(*m) == 16 {
		return 0, api.EFULL
	}
	id := 0
	for m.at(id) >= 0 {
		id++
	}
	*m = append(*m, append([]int{id}, chain...))
	return id, api.OK
}

func (m *model) remove(id int) api.Errno {
	if id == 0 {
		return api.EARG
	}
	at := m.at(id)
	if at < 0 {
		return api.EID
	}
	for _, chain := range *m {
		if slices.Contains(chain[1:], id) {
			return api.ESTATE
		}
	}
	*m = slices.Delete(*m, at, at+1)
	return api.OK
}

// strange are numbers that no tree has, some with the low bits of one.
func strange() []int {
	return []int{low, low + 1, low + 3, -1 << 32, 1 - 1<<32, -257, -256, -255, -65, -64, -63, -17, -16, -15, -2, -1,
		16, 17, 18, 31, 32, 33, 63, 64, 65, 255, 256, 257, 258, 65536, 65537, 1 << 32, 1<<32 + 1, top - 1, top}
}

// numbers are all that a tree may have, and strange ones.
func numbers() []int {
	l := strange()
	for id := range 16 {
		l = append(l, id)
	}
	return l
}

// same holds all that a tree tells without a change against the model.
func same(t *testing.T, g *Groups, m model) {
	t.Helper()
	if got, want := g.All(), m.all(); !slices.Equal(got, want) {
		t.Fatalf("P7.1: All: %d, want %d", got, want)
	}
	for _, id := range numbers() {
		want := m.chain(id)
		if got := slices.Collect(g.Path(id)); !slices.Equal(got, want) {
			t.Fatalf("P7.1: Path(%d): %d, want %d", id, got, want)
		}
		if got := g.Chain(id); !slices.Equal(got, want) {
			t.Fatalf("P7.1: Chain(%d): %d, want %d", id, got, want)
		}
		if got := g.Depth(id); got != len(want) {
			t.Fatalf("P7.1: Depth(%d): %d, want %d", id, got, len(want))
		}
		up, ok := 0, len(want) > 1
		if ok {
			up = want[1]
		}
		if got, there := g.Up(id); got != up || there != ok {
			t.Fatalf("P7.1: Up(%d): %d, %t, want %d, %t", id, got, there, up, ok)
		}
		for _, x := range numbers() {
			if got := g.Under(id, x); got != slices.Contains(want, x) {
				t.Fatalf("P7.1: Under(%d, %d): %t, and Path yields %d", id, x, got, want)
			}
		}
	}
}

func add(t *testing.T, g *Groups, up, want int) {
	t.Helper()
	if id, e := g.Add(up); id != want || e != api.OK {
		t.Fatalf("P7.1: Add(%d): %d, %d, want %d", up, id, e, want)
	}
}

func remove(t *testing.T, g *Groups, ids ...int) {
	t.Helper()
	for _, id := range ids {
		if e := g.Remove(id); e != api.OK {
			t.Fatalf("P7.1: Remove(%d): %d", id, e)
		}
	}
}

func refuse(t *testing.T, g *Groups, up int, want api.Errno) {
	t.Helper()
	if id, e := g.Add(up); id != 0 || e != want {
		t.Fatalf("P7.1: Add(%d): %d, %d, want 0, %d", up, id, e, want)
	}
}

func keep(t *testing.T, g *Groups, id int, want api.Errno) {
	t.Helper()
	if e := g.Remove(id); e != want {
		t.Fatalf("P7.1: Remove(%d): %d, want %d", id, e, want)
	}
}

func TestNew(t *testing.T) {
	same(t, New(), model{{0}})
}

func TestExample(t *testing.T) {
	g := New()
	add(t, g, 0, 1)
	add(t, g, 1, 2)
	if got, want := slices.Collect(g.Path(2)), []int{2, 1, 0}; !slices.Equal(got, want) {
		t.Errorf("P7.1: Path(2): %d, want %d", got, want)
	}
	same(t, g, model{{0}, {1, 0}, {2, 1, 0}})
}

// TestLeastNumber: neither the number that was removed last, nor the one that
// was removed first, nor one more than the greatest.
func TestLeastNumber(t *testing.T) {
	g := New()
	for id := range 6 {
		add(t, g, 0, id+1)
	}
	remove(t, g, 4, 2, 5)
	same(t, g, model{{0}, {1, 0}, {3, 0}, {6, 0}})
	add(t, g, 6, 2)
	add(t, g, 2, 4)
	add(t, g, 0, 5)
	add(t, g, 0, 7)
	same(t, g, model{{0}, {1, 0}, {2, 6, 0}, {3, 0}, {4, 2, 6, 0}, {5, 0}, {6, 0}, {7, 0}})
}

// TestNumberOfAnotherPlace: a number that is used again has nothing of the
// group that had it.
func TestNumberOfAnotherPlace(t *testing.T) {
	g := New()
	add(t, g, 0, 1)
	add(t, g, 1, 2)
	add(t, g, 2, 3)
	remove(t, g, 3, 2)
	add(t, g, 0, 2)
	remove(t, g, 1)
	add(t, g, 2, 1)
	add(t, g, 1, 3)
	same(t, g, model{{0}, {1, 2, 0}, {2, 0}, {3, 1, 2, 0}})
	refuse(t, g, 3, api.EDEPTH)
}

func TestDepth(t *testing.T) {
	g := New()
	add(t, g, 0, 1)
	add(t, g, 1, 2)
	add(t, g, 2, 3)
	want := model{{0}, {1, 0}, {2, 1, 0}, {3, 2, 1, 0}}
	for range 3 {
		refuse(t, g, 3, api.EDEPTH)
		same(t, g, want)
	}
	// The number that was refused is the next one, and as deep as it may be.
	add(t, g, 2, 4)
	refuse(t, g, 4, api.EDEPTH)
	add(t, g, 1, 5)
	add(t, g, 5, 6)
	refuse(t, g, 6, api.EDEPTH)
	same(t, g, append(want, []int{4, 2, 1, 0}, []int{5, 1, 0}, []int{6, 5, 1, 0}))
}

// full has 16 groups: 1 with 2 in it with 3 in it, and all others in 0.
func full(t *testing.T) (*Groups, model) {
	t.Helper()
	g, m := New(), model{{0}, {1, 0}, {2, 1, 0}, {3, 2, 1, 0}}
	for up := range 3 {
		add(t, g, up, up+1)
	}
	for id := 4; id < 16; id++ {
		add(t, g, 0, id)
		m = append(m, []int{id, 0})
	}
	same(t, g, m)
	return g, m
}

// TestAddErrorsInTurn: all three errors apply to a full tree, and the first
// one that does is told.
func TestAddErrorsInTurn(t *testing.T) {
	g, m := full(t)
	for range 2 {
		for _, up := range strange() {
			refuse(t, g, up, api.EID)
		}
		for id := range 16 {
			if id == 3 {
				refuse(t, g, id, api.EDEPTH)
			} else {
				refuse(t, g, id, api.EFULL)
			}
		}
		same(t, g, m)
	}
	remove(t, g, 9)
	refuse(t, g, 9, api.EID)
	refuse(t, g, 3, api.EDEPTH)
	add(t, g, 15, 9)
	refuse(t, g, 9, api.EFULL)
}

func TestAddWithinNone(t *testing.T) {
	g := New()
	for id := 1; id < 16; id++ {
		refuse(t, g, id, api.EID)
	}
	for _, id := range strange() {
		refuse(t, g, id, api.EID)
	}
	same(t, g, model{{0}})
	add(t, g, 0, 1)
}

func TestRemoveErrorsInTurn(t *testing.T) {
	g := New()
	// The root is refused as such, with groups within it or without.
	keep(t, g, 0, api.EARG)
	same(t, g, model{{0}})
	g, m := full(t)
	for range 2 {
		keep(t, g, 0, api.EARG)
		keep(t, g, 1, api.ESTATE)
		keep(t, g, 2, api.ESTATE)
		for _, id := range strange() {
			keep(t, g, id, api.EID)
		}
		same(t, g, m)
	}
	remove(t, g, 3)
	keep(t, g, 3, api.EID)
	keep(t, g, 1, api.ESTATE)
	remove(t, g, 2, 1)
	keep(t, g, 2, api.EID)
	keep(t, g, 1, api.EID)
	for id := 15; id > 3; id-- {
		remove(t, g, id)
		keep(t, g, id, api.EID)
	}
	keep(t, g, 0, api.EARG)
	same(t, g, model{{0}})
}

// TestRemoveWithSeveralWithin: the last group within one keeps it too.
func TestRemoveWithSeveralWithin(t *testing.T) {
	g := New()
	add(t, g, 0, 1)
	add(t, g, 0, 2)
	add(t, g, 2, 3)
	add(t, g, 2, 4)
	add(t, g, 2, 5)
	for _, id := range []int{4, 3, 5} {
		keep(t, g, 2, api.ESTATE)
		remove(t, g, id)
	}
	remove(t, g, 2)
	same(t, g, model{{0}, {1, 0}})
	// A group with a greater number contains one with a lesser number.
	add(t, g, 0, 2)
	add(t, g, 0, 3)
	remove(t, g, 1)
	add(t, g, 3, 1)
	keep(t, g, 3, api.ESTATE)
	remove(t, g, 1, 3)
	same(t, g, model{{0}, {2, 0}})
}

// TestPlays holds long plays against the model; in some of them groups are
// added rather within the youngest ones, so that they are deep.
func TestPlays(t *testing.T) {
	for play := range 12 {
		c := chance(play)
		g, m := New(), model{{0}}
		for n := range 400 {
			id := c.next(19) - 1
			if l := m.all(); c.next(4) > 0 {
				id = l[c.next(len(l))]
			}
			if play%3 == 0 && c.next(2) == 0 {
				id = m[len(m)-1][0]
			}
			if c.next(10) < 4+play%4 {
				got, e := g.Add(id)
				if want, e2 := m.add(id); got != want || e != e2 {
					t.Fatalf("P7.1: play %d, turn %d: Add(%d): %d, %d, want %d, %d", play, n, id, got, e, want, e2)
				}
			} else if e, want := g.Remove(id), m.remove(id); e != want {
				t.Fatalf("P7.1: play %d, turn %d: Remove(%d): %d, want %d", play, n, id, e, want)
			}
			same(t, g, m)
		}
	}
}

// deep has a path of four groups, whose numbers neither rise nor fall.
func deep(t *testing.T) *Groups {
	t.Helper()
	g := New()
	add(t, g, 0, 1)
	add(t, g, 0, 2)
	remove(t, g, 1)
	add(t, g, 2, 1)
	add(t, g, 1, 3)
	if got := g.Chain(3); !slices.Equal(got, deepPath()) {
		t.Fatalf("P7.1: Chain(3): %d, want %d", got, deepPath())
	}
	return g
}

func deepPath() []int { return []int{3, 1, 2, 0} }

func TestPathStopsAndStartsAgain(t *testing.T) {
	g, want := deep(t), deepPath()
	path := g.Path(3)
	for n := range want {
		var got []int
		for id := range path {
			got = append(got, id)
			if len(got) == n+1 {
				break
			}
		}
		if !slices.Equal(got, want[:n+1]) {
			t.Errorf("P7.1: Path stopped at %d: %d, want %d", n, got, want[:n+1])
		}
		if got := slices.Collect(path); !slices.Equal(got, want) {
			t.Errorf("P7.1: Path started again: %d, want %d", got, want)
		}
	}
	for outer := range path {
		if got := slices.Collect(path); !slices.Equal(got, want) {
			t.Errorf("P7.1: Path within itself at %d: %d, want %d", outer, got, want)
		}
	}
	for _, id := range append(strange(), 4, 15) {
		for x := range g.Path(id) {
			t.Errorf("P7.1: Path(%d) yields %d", id, x)
		}
	}
}

// TestPathEnds: whoever ranges turns the tree upside down at each group, so
// that the group above the present one is always the one before it.
func TestPathEnds(t *testing.T) {
	g := New()
	add(t, g, 0, 1)
	add(t, g, 1, 2)
	var got []int
	for id := range g.Path(2) {
		got = append(got, id)
		if len(got) > 10 {
			t.Fatalf("R1: Path does not end: %d", got)
		}
		switch id {
		case 1:
			remove(t, g, 2, 1)
			add(t, g, 0, 1)
			add(t, g, 0, 2)
			remove(t, g, 1)
			add(t, g, 2, 1)
		case 2:
			if g.Under(1, 2) {
				remove(t, g, 1, 2)
				add(t, g, 0, 1)
				add(t, g, 1, 2)
			}
		}
	}
	if want := []int{2, 1, 0}; !slices.Equal(got, want) {
		t.Errorf("P7.1: Path with changes: %d, want %d", got, want)
	}
	same(t, g, model{{0}, {1, 2, 0}, {2, 0}})
}

// TestPathMeetsChanges: a path that is removed while it is ranged over is
// yielded as it was when the iteration started.
func TestPathMeetsChanges(t *testing.T) {
	g := deep(t)
	var got []int
	for id := range g.Path(3) {
		got = append(got, id)
		if id == 3 {
			remove(t, g, 3, 1, 2)
		}
	}
	if !slices.Equal(got, deepPath()) {
		t.Errorf("P7.1: Path, removed meanwhile: %d, want %d", got, deepPath())
	}
	same(t, g, model{{0}})
	g = deep(t)
	for id := range g.Path(3) {
		if id != 0 {
			remove(t, g, id)
		}
	}
	same(t, g, model{{0}})
}

// TestIterationStartsLate: what counts is the start of the iteration, not the
// call that made the iterator.
func TestIterationStartsLate(t *testing.T) {
	g := New()
	path := g.Path(2)
	for _, step := range []struct {
		change func()
		want   []int
	}{
		{func() {}, nil},
		{func() { add(t, g, 0, 1) }, nil},
		{func() { add(t, g, 1, 2) }, []int{2, 1, 0}},
		{func() { remove(t, g, 2) }, nil},
		{func() { add(t, g, 0, 2) }, []int{2, 0}},
	} {
		step.change()
		if got := slices.Collect(path); !slices.Equal(got, step.want) {
			t.Errorf("P7.1: Path made ahead: %d, want %d", got, step.want)
		}
	}
}

func TestResultsAreNewMemory(t *testing.T) {
	g := deep(t)
	for name, c := range map[string]struct {
		list func() []int
		want []int
	}{
		"All":   {g.All, []int{0, 1, 2, 3}},
		"Chain": {func() []int { return g.Chain(3) }, deepPath()},
	} {
		first, second := c.list(), c.list()
		whole := second[:cap(second)]
		for i := range whole {
			whole[i] = -1
		}
		if !slices.Equal(first, c.want) {
			t.Errorf("R4: two results of %s share memory: %d, want %d", name, first, c.want)
		}
		if got := c.list(); !slices.Equal(got, c.want) {
			t.Errorf("R4: a result of %s is kept: %d, want %d", name, got, c.want)
		}
	}
	all, chain := g.All(), g.Chain(3)
	remove(t, g, 3, 1)
	if !slices.Equal(all, []int{0, 1, 2, 3}) || !slices.Equal(chain, deepPath()) {
		t.Errorf("R4: All and Chain follow the tree: %d, %d", all, chain)
	}
}

func TestTreesStandAlone(t *testing.T) {
	a, b := deep(t), New()
	add(t, b, 0, 1)
	remove(t, a, 3)
	add(t, b, 1, 2)
	same(t, a, model{{0}, {1, 2, 0}, {2, 0}})
	same(t, b, model{{0}, {1, 0}, {2, 1, 0}})
	same(t, New(), model{{0}})
}
