package ordq

import (
	"iter"
	"math"
	"math/bits"
	"slices"
	"testing"

	"stadholder/api"
)

const (
	top    = math.MaxInt
	low    = math.MinInt
	topKey = math.MaxInt64
	lowKey = math.MinInt64
)

// chance is a fixed sequence of numbers, from 0 on.
type chance uint64

func (c *chance) next(n int) int {
	*c = *c*6364136223846793005 + 1442695040888963407
	x := uint64(*c)
	x ^= x >> 29
	return int(x >> 8 % uint64(n))
}

// model is the queue as a plain list, searched from end to end.
type model struct {
	most  int
	items []Item
}

// before is the order written out, without a difference that could overflow.
func before(a, b Item) bool {
	if a.Key != b.Key {
		return a.Key < b.Key
	}
	return a.ID < b.ID
}

func (m *model) find(id int) int {
	return slices.IndexFunc(m.items, func(x Item) bool { return x.ID == id })
}

func (m *model) put(key int64, id int) api.Errno {
	if m.find(id) >= 0 {
		return api.ESTATE
	}
	if len(m.items) == m.most {
		return api.EFULL
	}
	x := Item{Key: key, ID: id}
	at := 0
	for at < len(m.items) && before(m.items[at], x) {
		at++
	}
	m.items = slices.Insert(m.items, at, x)
	return api.OK
}

func (m *model) drop(id int) (Item, bool) {
	at := m.find(id)
	if at < 0 {
		return Item{}, false
	}
	x := m.items[at]
	m.items = slices.Delete(m.items, at, at+1)
	return x, true
}

func (m *model) set(id int, key int64) bool {
	_, there := m.drop(id)
	if there {
		m.put(key, id)
	}
	return there
}

func (m *model) above(key int64) []Item {
	var l []Item
	for _, x := range m.items {
		if x.Key > key {
			l = append(l, x)
		}
	}
	return l
}

// inOrder are the items of All; a position that is out of turn ends them.
func inOrder(t *testing.T, s iter.Seq2[int, Item]) []Item {
	t.Helper()
	var l []Item
	for at, x := range s {
		if at != len(l) {
			t.Fatalf("P4.1: All yields position %d for item number %d", at, len(l))
		}
		l = append(l, x)
	}
	return l
}

// same holds all that a queue tells without a change against the model.
func same(t *testing.T, q *Q, m *model, keys ...int64) {
	t.Helper()
	if got := inOrder(t, q.All()); !slices.Equal(got, m.items) {
		t.Fatalf("P4.1: All: %v, want %v", got, m.items)
	}
	if got := q.List(); !slices.Equal(got, m.items) {
		t.Fatalf("P4.1: List: %v, want %v", got, m.items)
	}
	if got := q.Len(); got != len(m.items) {
		t.Fatalf("P4.1: Len: %d, want %d", got, len(m.items))
	}
	for _, key := range keys {
		want := m.above(key)
		if got := slices.Collect(q.Above(key)); !slices.Equal(got, want) {
			t.Fatalf("P4.1: Above(%d): %v, want %v", key, got, want)
		}
		if got := q.Over(key); !slices.Equal(got, want) {
			t.Fatalf("P4.1: Over(%d): %v, want %v", key, got, want)
		}
	}
	want, some := Item{}, len(m.items) > 0
	if some {
		want = m.items[0]
	}
	if got, ok := q.Min(); got != want || ok != some {
		t.Fatalf("P4.1: Min: %v, %v, want %v, %v", got, ok, want, some)
	}
	for _, x := range m.items {
		if key, ok := q.Key(x.ID); key != x.Key || !ok {
			t.Fatalf("P4.1: Key(%d): %d, %v, want %d", x.ID, key, ok, x.Key)
		}
	}
}

// filled has the items of a list, put in that order.
func filled(t *testing.T, most int, l ...Item) *Q {
	t.Helper()
	q := New(most)
	for _, x := range l {
		if e := q.Put(x.Key, x.ID); e != api.OK {
			t.Fatalf("P4.1: Put(%d, %d) = %d", x.Key, x.ID, e)
		}
	}
	return q
}

func TestExample(t *testing.T) {
	q := filled(t, 2, Item{5, 1}, Item{3, 2})
	if x, ok := q.Min(); !ok || x != (Item{Key: 3, ID: 2}) {
		t.Errorf("P4.1: Min: %v, %v, want the item with Key 3 and ID 2", x, ok)
	}
}

func TestRoom(t *testing.T) {
	for _, c := range []struct{ most, want int }{
		{low, 1}, {-4096, 1}, {-1, 1}, {0, 1}, {1, 1}, {2, 2}, {64, 64}, {1000, 1000},
		{4095, 4095}, {4096, 4096}, {4097, 4096}, {1<<32 + 7, 4096}, {1 << 32, 4096}, {top, 4096},
	} {
		q := New(c.most)
		same(t, q, &model{}, 0)
		for n := range c.want {
			if e := q.Put(int64(-n), n); e != api.OK {
				t.Fatalf("P4.1: New(%d): Put of number %d: %d", c.most, n, e)
			}
		}
		if e := q.Put(0, c.want); e != api.EFULL || q.Len() != c.want {
			t.Errorf("P4.1: New(%d) has room for %d: %d, want %d", c.most, q.Len(), e, c.want)
		}
		if e := q.Put(0, 0); e != api.ESTATE {
			t.Errorf("P4.1: New(%d), full, Put of an ID that is there: %d", c.most, e)
		}
		if _, ok := q.Drop(0); !ok {
			t.Errorf("P4.1: New(%d), full: no Drop", c.most)
		}
		if e := q.Put(7, c.want); e != api.OK {
			t.Errorf("P4.1: New(%d), full, Put behind a Drop: %d", c.most, e)
		}
	}
}

func TestWrongCallsChangeNothing(t *testing.T) {
	want := &model{items: []Item{{-7, 4}, {5, 3}, {5, 9}}}
	q := filled(t, 3, Item{5, 9}, Item{5, 3}, Item{-7, 4})
	steps := q.Steps()
	for _, c := range []struct {
		key int64
		id  int
		e   api.Errno
	}{
		{1, 9, api.ESTATE}, {5, 9, api.ESTATE}, {-7, 4, api.ESTATE}, {topKey, 3, api.ESTATE},
		{0, 8, api.EFULL}, {5, 4 + 1<<32, api.EFULL}, {lowKey, low, api.EFULL}, {topKey, top, api.EFULL}, {0, -4, api.EFULL},
	} {
		if e := q.Put(c.key, c.id); e != c.e {
			t.Errorf("P4.1: Put(%d, %d) = %d, want %d", c.key, c.id, e, c.e)
		}
		same(t, q, want, -8, 0, 5)
	}
	for _, id := range []int{low, -4, -1, 0, 1, 5, 8, 10, 3 + 1<<32, 9 - 1<<32, top} {
		if x, ok := q.Drop(id); ok || x != (Item{}) {
			t.Errorf("P4.1: Drop(%d) of none: %v, %v", id, x, ok)
		}
		if q.Set(id, 1) {
			t.Errorf("P4.1: Set(%d) of none", id)
		}
		if key, ok := q.Key(id); ok || key != 0 {
			t.Errorf("P4.1: Key(%d) of none: %d, %v", id, key, ok)
		}
		same(t, q, want, -8, 0, 5)
	}
	if q.Steps() != steps {
		t.Errorf("R3: Steps counts calls that return an error: %d, want %d", q.Steps(), steps)
	}
}

func TestOrderAtTheEdges(t *testing.T) {
	want := []Item{
		{lowKey, low}, {lowKey, -1}, {lowKey, 0}, {lowKey, 2}, {lowKey + 1, -2}, {-1, 1}, {0, 3},
		{1, 4}, {topKey - 1, 5}, {topKey, low + 1}, {topKey, -3}, {topKey, 6}, {topKey, top - 1}, {topKey, top},
	}
	var c chance
	for range 300 {
		l := slices.Clone(want)
		for i := range l {
			j := i + c.next(len(l)-i)
			l[i], l[j] = l[j], l[i]
		}
		q := filled(t, len(l), l...)
		same(t, q, &model{items: want}, lowKey, lowKey+1, -2, -1, 0, 1, topKey-1, topKey)
		for _, x := range l {
			if got, ok := q.Drop(x.ID); got != x || !ok {
				t.Fatalf("P4.1: Drop(%d): %v, %v, want %v", x.ID, got, ok, x)
			}
		}
		same(t, q, &model{}, lowKey, 0)
	}
	q := filled(t, len(want), want...)
	for _, c := range []struct {
		key  int64
		many int
	}{{lowKey, 10}, {lowKey + 1, 9}, {-2, 9}, {-1, 8}, {0, 7}, {1, 6}, {topKey - 2, 6}, {topKey - 1, 5}, {topKey, 0}} {
		if got := q.Over(c.key); len(got) != c.many || !slices.Equal(got, want[len(want)-c.many:]) {
			t.Errorf("P4.1: Over(%d): %v, want the last %d", c.key, got, c.many)
		}
	}
}

func TestSet(t *testing.T) {
	for _, c := range []struct {
		id   int
		key  int64
		want []Item
	}{
		{4, 4, []Item{{2, 2}, {4, 4}, {6, 6}}},
		{4, 1, []Item{{1, 4}, {2, 2}, {6, 6}}},
		{4, 2, []Item{{2, 2}, {2, 4}, {6, 6}}},
		{4, 6, []Item{{2, 2}, {6, 4}, {6, 6}}},
		{4, 7, []Item{{2, 2}, {6, 6}, {7, 4}}},
		{2, 6, []Item{{4, 4}, {6, 2}, {6, 6}}},
		{2, topKey, []Item{{4, 4}, {6, 6}, {topKey, 2}}},
		{6, 2, []Item{{2, 2}, {2, 6}, {4, 4}}},
		{6, lowKey, []Item{{lowKey, 6}, {2, 2}, {4, 4}}},
	} {
		// Full, for Set needs no room.
		q := filled(t, 3, Item{6, 6}, Item{2, 2}, Item{4, 4})
		if !q.Set(c.id, c.key) {
			t.Errorf("P4.1: Set(%d, %d) finds none", c.id, c.key)
		}
		same(t, q, &model{items: c.want}, 1, 2, 5)
	}
}

// limit is how many comparisons a call may make.
func limit(many int) int64 {
	return 4 * int64(bits.Len(uint(many))+2)
}

// TestPlays holds long plays against the model, in queues of several sizes,
// with few and with many equal keys.
func TestPlays(t *testing.T) {
	for _, p := range []struct{ most, ids, keys, turns int }{
		{1, 3, 3, 300}, {2, 4, 2, 600}, {5, 8, 4, 2000}, {16, 20, 1, 2000},
		{64, 70, 9, 4000}, {300, 400, 1 << 20, 6000}, {4096, 4300, 50, 12000},
	} {
		var c chance
		q, m := New(p.most), &model{most: max(p.most, 1)}
		for turn := range p.turns {
			id, key := c.next(p.ids)-p.ids/2, int64(c.next(p.keys)-p.keys/2)
			many, steps := len(m.items), q.Steps()
			switch c.next(6) {
			case 0, 1, 2:
				if got, want := q.Put(key, id), m.put(key, id); got != want {
					t.Fatalf("P4.1: turn %d: Put(%d, %d) = %d, want %d", turn, key, id, got, want)
				}
			case 3:
				if got, want := q.Set(id, key), m.set(id, key); got != want {
					t.Fatalf("P4.1: turn %d: Set(%d, %d) = %v, want %v", turn, id, key, got, want)
				}
			case 4:
				x, ok := q.Drop(id)
				if want, there := m.drop(id); x != want || ok != there {
					t.Fatalf("P4.1: turn %d: Drop(%d) = %v, %v, want %v, %v", turn, id, x, ok, want, there)
				}
			default:
				if x, ok := q.Min(); ok != (many > 0) || ok && x != m.items[0] {
					t.Fatalf("P4.1: turn %d: Min = %v, %v", turn, x, ok)
				}
			}
			if made := q.Steps() - steps; made < 0 || made > limit(many) {
				t.Fatalf("P4.1: turn %d: %d comparisons among %d items", turn, made, many)
			}
			if turn%(1+p.most/8) == 0 {
				same(t, q, m, key-1, key, key+1)
			}
		}
	}
}

// rows are ways to fill a queue: rising, falling, all equal, and by chance.
func rows(n int) [][]Item {
	var c chance
	l := make([][]Item, 4)
	for i := range n {
		l[0] = append(l[0], Item{int64(i), i})
		l[1] = append(l[1], Item{int64(-i), i})
		l[2] = append(l[2], Item{0, (i * 2731) % 4099})
		l[3] = append(l[3], Item{int64(c.next(n)), i})
	}
	return l
}

// TestFewComparisons goes up to a full queue, and down to an empty one.
func TestFewComparisons(t *testing.T) {
	for kind, row := range rows(4096) {
		q := New(4096)
		last := int64(0)
		made := func(call string, many int) {
			t.Helper()
			if n := q.Steps() - last; n < 0 || n > limit(many) {
				t.Fatalf("P4.1: row %d: %s makes %d comparisons among %d items", kind, call, n, many)
			}
			last = q.Steps()
		}
		for many, x := range row {
			q.Put(x.Key, x.ID)
			made("Put", many)
			q.Min()
			made("Min", many+1)
			q.Set(row[many/2].ID, x.Key)
			made("Set", many+1)
		}
		for gone, x := range row {
			q.Drop(x.ID)
			made("Drop", len(row)-gone)
			q.Min()
			made("Min", len(row)-gone-1)
		}
		if q.Len() != 0 {
			t.Errorf("P4.1: row %d: %d items are left", kind, q.Len())
		}
	}
}

// TestStepsCounts: an item that joins others is held against one of them at
// least; calls that only tell are not counted.
func TestStepsCounts(t *testing.T) {
	q := New(4096)
	if q.Steps() != 0 {
		t.Errorf("P4.1: Steps of a new queue: %d", q.Steps())
	}
	q.Put(1, 1)
	for n := range 4095 {
		steps := q.Steps()
		q.Put(int64(n*37%1000), n+2)
		if q.Steps() <= steps {
			t.Fatalf("P4.1: Put among %d items counts no comparison", n+1)
		}
	}
	steps := q.Steps()
	q.List()
	q.Over(500)
	inOrder(t, q.All())
	for range q.Above(3) {
	}
	q.Key(7)
	q.Len()
	q.Steps()
	if q.Steps() != steps {
		t.Errorf("P4.1: Steps counts more than Put, Drop, Set and Min: %d, want %d", q.Steps(), steps)
	}
	other := New(3)
	other.Put(1, 1)
	other.Put(2, 2)
	if q.Steps() != steps {
		t.Errorf("R5: another queue moves Steps to %d", q.Steps())
	}
}

// TestStepsRepeat: the same calls count the same.
func TestStepsRepeat(t *testing.T) {
	row := rows(500)[3]
	a, b := filled(t, 500, row...), filled(t, 500, row...)
	for i, x := range row {
		a.Set(x.ID, int64(i))
		b.Set(x.ID, int64(i))
		if a.Steps() != b.Steps() {
			t.Fatalf("R5: Steps: %d and %d", a.Steps(), b.Steps())
		}
	}
}

// walk is an iterator of items, whichever of the two gave it.
type walk struct {
	name string
	s    iter.Seq[Item]
	want []Item
}

// withoutPlaces drops the positions, which All's tests look at.
func withoutPlaces(s iter.Seq2[int, Item]) iter.Seq[Item] {
	return func(yield func(Item) bool) {
		for _, x := range s {
			if !yield(x) {
				return
			}
		}
	}
}

func walks(q *Q) []walk {
	return []walk{
		{"All", withoutPlaces(q.All()), []Item{{1, 5}, {2, 2}, {2, 4}, {7, 1}, {9, 3}}},
		{"Above", q.Above(1), []Item{{2, 2}, {2, 4}, {7, 1}, {9, 3}}},
		{"Above all", q.Above(9), nil},
	}
}

func five(t *testing.T) *Q {
	return filled(t, 9, Item{7, 1}, Item{2, 2}, Item{9, 3}, Item{2, 4}, Item{1, 5})
}

func TestIteratorsStopAndStartAgain(t *testing.T) {
	for _, w := range walks(five(t)) {
		for n := range w.want {
			var got []Item
			for x := range w.s {
				got = append(got, x)
				if len(got) == n+1 {
					break
				}
			}
			if !slices.Equal(got, w.want[:n+1]) {
				t.Errorf("P4.1: %s stopped at %d: %v, want %v", w.name, n, got, w.want[:n+1])
			}
			if got := slices.Collect(w.s); !slices.Equal(got, w.want) {
				t.Errorf("P4.1: %s started again: %v, want %v", w.name, got, w.want)
			}
		}
		for outer := range w.s {
			if got := slices.Collect(w.s); !slices.Equal(got, w.want) {
				t.Errorf("P4.1: %s within itself at %v: %v, want %v", w.name, outer, got, w.want)
			}
		}
	}
}

// TestIteratorsKeepTheirItems: each change meets an iteration at each of its
// items, and the iteration goes on as if there had been none.
func TestIteratorsKeepTheirItems(t *testing.T) {
	for name, change := range map[string]func(q *Q, x Item){
		"Drop of the item":      func(q *Q, x Item) { q.Drop(x.ID) },
		"Drop of all":           func(q *Q, x Item) { empty(q) },
		"Put at the front":      func(q *Q, x Item) { q.Put(lowKey, 100+x.ID) },
		"Put behind the item":   func(q *Q, x Item) { q.Put(x.Key, 100+x.ID) },
		"Put at the end":        func(q *Q, x Item) { q.Put(topKey, 100+x.ID) },
		"Set to the front":      func(q *Q, x Item) { q.Set(x.ID, lowKey) },
		"Set to the end":        func(q *Q, x Item) { q.Set(x.ID, topKey) },
		"Set of the last":       func(q *Q, x Item) { q.Set(3, 0) },
		"Drop of all and a Put": func(q *Q, x Item) { empty(q); q.Put(3, 50) },
	} {
		for number := range walks(five(t)) {
			for at := range 5 {
				q := five(t)
				w := walks(q)[number]
				var got []Item
				for x := range w.s {
					if len(got) == at {
						change(q, x)
					}
					got = append(got, x)
				}
				if !slices.Equal(got, w.want) {
					t.Errorf("P4.1: %s, with %s at item %d: %v, want %v", w.name, name, at, got, w.want)
				}
			}
		}
	}
}

func empty(q *Q) {
	for _, x := range q.List() {
		q.Drop(x.ID)
	}
}

// TestIterationStartsLate: what counts is the start of the iteration, not the
// call that made the iterator.
func TestIterationStartsLate(t *testing.T) {
	q := New(9)
	all, above := q.All(), q.Above(2)
	for round := range 3 {
		q.Put(int64(round)*2, round)
		if got := inOrder(t, all); !slices.Equal(got, q.List()) || len(got) != round+1 {
			t.Errorf("P4.1: All made ahead: %v, want %v", got, q.List())
		}
		if got := slices.Collect(above); !slices.Equal(got, q.Over(2)) || len(got) != max(0, round-1) {
			t.Errorf("P4.1: Above made ahead: %v, want %v", got, q.Over(2))
		}
	}
	empty(q)
	if got := inOrder(t, all); len(got) != 0 {
		t.Errorf("P4.1: All made ahead, of an empty queue: %v", got)
	}
}

func TestResultsAreNewMemory(t *testing.T) {
	q := five(t)
	for name, list := range map[string]func() []Item{"List": q.List, "Over": func() []Item { return q.Over(1) }} {
		first, second := list(), list()
		want := slices.Clone(first)
		for i := range second[:cap(second)] {
			second[:cap(second)][i] = Item{-1, -1}
		}
		if !slices.Equal(first, want) || !slices.Equal(list(), want) {
			t.Errorf("R4: %s shares memory: %v, %v, want %v", name, first, list(), want)
		}
		q.Put(8, 8)
		q.Drop(2)
		if !slices.Equal(first, want) {
			t.Errorf("R4: %s follows the queue: %v, want %v", name, first, want)
		}
		q.Put(2, 2)
		q.Drop(8)
	}
	if got := five(t).List(); !slices.Equal(got, q.List()) {
		t.Errorf("R4: the queue was changed: %v, want %v", q.List(), got)
	}
}

func TestQueuesStandAlone(t *testing.T) {
	a, b := five(t), New(2)
	b.Put(-1, 1)
	a.Drop(5)
	if a.Len() != 4 || b.Len() != 1 {
		t.Errorf("R5: two queues have %d and %d items, want 4 and 1", a.Len(), b.Len())
	}
	if key, _ := a.Key(1); key != 7 {
		t.Errorf("R5: Key(1): %d, want 7", key)
	}
}
