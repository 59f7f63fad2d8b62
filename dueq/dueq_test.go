package dueq

import (
	"math"
	"slices"
	"testing"

	"stadholder/api"
)

const (
	top    = math.MaxInt
	low    = math.MinInt
	topKey = math.MaxInt64
	lowKey = math.MinInt64
)

// chance is a fixed sequence of numbers, from 0 on.
type chance uint64

func (c *chance) next(n int) int {
	*c = *c*6364136223846793005 + 1442695040888963407
	x := uint64(*c)
	x ^= x >> 29
	return int((x >> 8) % uint64(n))
}

// model is the queue as a plain list, searched from end to end.
type model struct {
	most  int
	items []Item
}

// before is the order written out, without a difference that could overflow.
func before(a, b Item) bool {
	if a.Key != b.Key {
		return a.Key < b.Key
	}
	return a.ID < b.ID
}

func (m *model) find(id int) int {
	return slices.IndexFunc(m.items, func(x Item) bool { return x.ID == id })
}

func (m *model) put(key, due int64, id int) api.Errno {
	if m.find(id) >= 0 {
		return api.ESTATE
	}
	if len(m.items) == m.most {
		return api.EFULL
	}
	x := Item{Key: key, Due: due, ID: id}
	at := 0
	for at < len(m.items) && before(m.items[at], x) {
		at++
	}
	m.items = slices.Insert(m.items, at, x)
	return api.OK
}

func (m *model) drop(id int) (Item, bool) {
	at := m.find(id)
	if at < 0 {
		return Item{}, false
	}
	x := m.items[at]
	m.items = slices.Delete(m.items, at, at+1)
	return x, true
}

func (m *model) set(id int, key, due int64) bool {
	_, there := m.drop(id)
	if there {
		m.put(key, due, id)
	}
	return there
}

// first looks from the end, so that an item is not favoured for its place.
func (m *model) first(most int64) (Item, bool) {
	best, found := Item{}, false
	for _, x := range slices.Backward(m.items) {
		if x.Key > most {
			continue
		}
		if !found || x.Due < best.Due || x.Due == best.Due && x.ID < best.ID {
			best, found = x, true
		}
	}
	return best, found
}

// same holds all that a queue tells without a change against the model.
func same(t *testing.T, q *Q, m *model, mosts ...int64) {
	t.Helper()
	if got := slices.Collect(q.All()); !slices.Equal(got, m.items) {
		t.Fatalf("P5.1: All: %v, want %v", got, m.items)
	}
	if got := q.List(); !slices.Equal(got, m.items) {
		t.Fatalf("P5.1: List: %v, want %v", got, m.items)
	}
	if got := q.Len(); got != len(m.items) {
		t.Fatalf("P5.1: Len: %d, want %d", got, len(m.items))
	}
	// Nothing may be kept of items that are gone.
	if len(q.dues) != len(m.items) {
		t.Fatalf("P5.1: %d deadlines are kept for %d items", len(q.dues), len(m.items))
	}
	want, some := Item{}, len(m.items) > 0
	if some {
		want = m.items[0]
	}
	if got, ok := q.Least(); got != want || ok != some {
		t.Fatalf("P5.1: Least: %v, %v, want %v, %v", got, ok, want, some)
	}
	for _, x := range m.items {
		if got, ok := q.Get(x.ID); got != x || !ok {
			t.Fatalf("P5.1: Get(%d): %v, %v, want %v", x.ID, got, ok, x)
		}
	}
	for _, most := range mosts {
		want, some := m.first(most)
		if got, ok := q.First(most); got != want || ok != some {
			t.Fatalf("P5.1: First(%d): %v, %v, want %v, %v", most, got, ok, want, some)
		}
	}
}

// filled has the items of a list, put in that order.
func filled(t *testing.T, most int, l ...Item) *Q {
	t.Helper()
	q := New(most)
	for _, x := range l {
		if e := q.Put(x.Key, x.Due, x.ID); e != api.OK {
			t.Fatalf("P5.1: Put(%d, %d, %d) = %d", x.Key, x.Due, x.ID, e)
		}
	}
	return q
}

// mixed is a list in another order.
func mixed(l []Item, c *chance) []Item {
	l = slices.Clone(l)
	for i := range l {
		j := i + c.next(len(l)-i)
		l[i], l[j] = l[j], l[i]
	}
	return l
}

func TestExample(t *testing.T) {
	q := filled(t, 2, Item{5, 1, 1}, Item{3, 9, 2})
	if x, ok := q.First(4); !ok || x != (Item{Key: 3, Due: 9, ID: 2}) {
		t.Errorf("P5.1: First(4): %v, %v, want the second item", x, ok)
	}
	if x, ok := q.First(5); !ok || x != (Item{Key: 5, Due: 1, ID: 1}) {
		t.Errorf("P5.1: First(5): %v, %v, want the first item", x, ok)
	}
}

func TestEmpty(t *testing.T) {
	used := filled(t, 3, Item{1, 2, 3}, Item{0, 0, 0})
	used.Drop(3)
	used.Drop(0)
	for name, q := range map[string]*Q{"new": New(3), "emptied": used} {
		same(t, q, &model{}, lowKey, -1, 0, 1, topKey)
		for _, id := range []int{low, -1, 0, 3, top} {
			if x, ok := q.Get(id); ok || x != (Item{}) {
				t.Errorf("P5.1: Get(%d) of a queue that is %s: %v, %v", id, name, x, ok)
			}
			if x, ok := q.Drop(id); ok || x != (Item{}) {
				t.Errorf("P5.1: Drop(%d) of a queue that is %s: %v, %v", id, name, x, ok)
			}
			if q.Set(id, 0, 0) {
				t.Errorf("P5.1: Set(%d) in a queue that is %s", id, name)
			}
		}
		same(t, q, &model{}, 0)
	}
}

func TestRoom(t *testing.T) {
	for _, c := range []struct{ most, want int }{
		{low, 1}, {-4096, 1}, {-1, 1}, {0, 1}, {1, 1}, {2, 2}, {64, 64}, {1000, 1000},
		{4095, 4095}, {4096, 4096}, {4097, 4096}, {1<<32 + 7, 4096}, {1 << 32, 4096}, {top, 4096},
	} {
		q := New(c.most)
		for n := range c.want {
			if e := q.Put(int64(-n), int64(n), n); e != api.OK {
				t.Fatalf("P5.1: New(%d): Put of number %d: %d", c.most, n, e)
			}
		}
		if e := q.Put(0, 0, c.want); e != api.EFULL || q.Len() != c.want {
			t.Errorf("P5.1: New(%d) has room for %d: %d, want %d", c.most, q.Len(), e, c.want)
		}
		if e := q.Put(0, 0, 0); e != api.ESTATE {
			t.Errorf("P5.1: New(%d), full, Put of an ID that is there: %d", c.most, e)
		}
		if x, ok := q.Drop(0); !ok || x != (Item{}) {
			t.Errorf("P5.1: New(%d), full: Drop(0): %v, %v", c.most, x, ok)
		}
		if e := q.Put(7, 8, c.want); e != api.OK {
			t.Errorf("P5.1: New(%d), full, Put behind a Drop: %d", c.most, e)
		}
	}
}

func TestWrongCallsChangeNothing(t *testing.T) {
	want := &model{items: []Item{{-7, 20, 4}, {5, 10, 3}, {5, 30, 9}}}
	q := filled(t, 3, Item{5, 30, 9}, Item{5, 10, 3}, Item{-7, 20, 4})
	mosts := []int64{-8, -7, 0, 4, 5, 6}
	for _, c := range []struct {
		key, due int64
		id       int
		e        api.Errno
	}{
		{1, 2, 9, api.ESTATE}, {5, 30, 9, api.ESTATE}, {-7, -99, 4, api.ESTATE}, {topKey, lowKey, 3, api.ESTATE},
		{0, 0, 8, api.EFULL}, {5, 10, 4 + 1<<32, api.EFULL}, {lowKey, lowKey, low, api.EFULL},
		{topKey, topKey, top, api.EFULL}, {0, 0, -4, api.EFULL},
	} {
		if e := q.Put(c.key, c.due, c.id); e != c.e {
			t.Errorf("P5.1: Put(%d, %d, %d) = %d, want %d", c.key, c.due, c.id, e, c.e)
		}
		same(t, q, want, mosts...)
	}
	for _, id := range []int{low, -4, -1, 0, 1, 5, 8, 10, 3 + 1<<32, 9 - 1<<32, top} {
		if x, ok := q.Drop(id); ok || x != (Item{}) {
			t.Errorf("P5.1: Drop(%d) of none: %v, %v", id, x, ok)
		}
		if q.Set(id, 1, 1) {
			t.Errorf("P5.1: Set(%d) of none", id)
		}
		if x, ok := q.Get(id); ok || x != (Item{}) {
			t.Errorf("P5.1: Get(%d) of none: %v, %v", id, x, ok)
		}
		same(t, q, want, mosts...)
	}
}

// TestWrongCallsLeaveNoDeadline: an ID that was refused, not found or dropped
// has the deadline of its next Put, and no other.
func TestWrongCallsLeaveNoDeadline(t *testing.T) {
	q := filled(t, 1, Item{1, 5, 1})
	q.Put(1, 77, 2)
	q.Set(2, 1, 88)
	q.Drop(1)
	q.Set(1, 1, 99)
	for id := range 3 {
		if x, ok := q.Get(id); ok || x != (Item{}) {
			t.Errorf("R3: Get(%d) of none: %v, %v", id, x, ok)
		}
		q.Put(4, 0, id)
		same(t, q, &model{items: []Item{{4, 0, id}}}, 3, 4)
		q.Drop(id)
	}
}

func TestOrderAtTheEdges(t *testing.T) {
	want := []Item{
		{lowKey, topKey, low}, {lowKey, 0, -1}, {lowKey, -1, 0}, {lowKey, 7, 2}, {lowKey + 1, 0, -2}, {-1, -1, 1}, {0, 0, 3},
		{1, -2, 4}, {topKey - 1, -2, 5}, {topKey, lowKey, low + 1}, {topKey, topKey, -3}, {topKey, 1, 6}, {topKey, 0, top - 1}, {topKey, lowKey, top},
	}
	mosts := []int64{lowKey, lowKey + 1, -2, -1, 0, 1, 2, topKey - 2, topKey - 1, topKey}
	var c chance
	for range 300 {
		l := mixed(want, &c)
		q := filled(t, len(l), l...)
		same(t, q, &model{items: want}, mosts...)
		for _, x := range l {
			if got, ok := q.Drop(x.ID); got != x || !ok {
				t.Fatalf("P5.1: Drop(%d): %v, %v, want %v", x.ID, got, ok, x)
			}
		}
		same(t, q, &model{}, mosts...)
	}
}

func TestFirst(t *testing.T) {
	for _, c := range []struct {
		name  string
		items []Item
		most  int64
		want  int // an ID, or 0 for none
	}{
		{"a key just small enough", []Item{{5, 1, 1}}, 5, 1},
		{"a key just too great", []Item{{6, 1, 1}}, 5, 0},
		{"no key is small enough", []Item{{6, 1, 1}, {7, 0, 2}, {topKey, lowKey, 3}}, 5, 0},
		{"the least key is not the first due", []Item{{1, 9, 1}, {2, 3, 2}, {3, 5, 3}}, 3, 2},
		{"the greatest key is the first due", []Item{{1, 9, 1}, {2, 8, 2}, {3, 7, 3}}, 3, 3},
		{"an earlier deadline behind most", []Item{{1, 9, 1}, {2, 8, 2}, {3, 7, 3}}, 2, 2},
		{"equal deadlines, the least ID has the greatest key", []Item{{1, 4, 3}, {2, 4, 2}, {3, 4, 1}}, 3, 1},
		{"equal deadlines, the least ID behind most", []Item{{1, 4, 3}, {2, 4, 2}, {3, 4, 1}}, 2, 2},
		{"equal deadlines and equal keys", []Item{{1, 4, 3}, {1, 4, 2}, {1, 4, 7}}, 1, 2},
		{"equal deadlines, negative IDs", []Item{{1, 4, -2}, {2, 4, -9}, {3, 4, 5}}, 3, -9},
		{"equal deadlines, IDs at the edges", []Item{{1, 4, top}, {2, 4, low}}, 2, low},
		{"negative deadlines", []Item{{1, -4, 1}, {2, -5, 2}, {3, 0, 3}}, 3, 2},
		{"deadlines at the edges", []Item{{1, topKey, 1}, {2, lowKey, 2}, {3, -1, 3}}, 3, 2},
		{"the last of all deadlines, alone", []Item{{1, topKey, 8}}, 1, 8},
		{"all at the top", []Item{{topKey, topKey, top}}, topKey, top},
		{"all at the bottom", []Item{{lowKey, lowKey, low}}, lowKey, low},
		{"a great most", []Item{{lowKey, 5, 1}, {topKey, 4, 2}}, topKey, 2},
		{"a small most", []Item{{lowKey, 5, 1}, {lowKey + 1, 4, 2}}, lowKey, 1},
	} {
		var r chance
		for range 10 {
			q := filled(t, 9, mixed(c.items, &r)...)
			x, ok := q.First(c.most)
			if ok != (c.want != 0) || x.ID != c.want {
				t.Errorf("P5.1: First(%d), %s: %v, %v, want %d", c.most, c.name, x, ok, c.want)
			}
			if !ok && x != (Item{}) {
				t.Errorf("R2: First(%d), %s: %v beside false", c.most, c.name, x)
			}
			if ok && !slices.Contains(c.items, x) {
				t.Errorf("P5.1: First(%d), %s: %v is none of the items", c.most, c.name, x)
			}
			if q.Len() != len(c.items) {
				t.Errorf("P5.1: First(%d), %s, leaves %d items", c.most, c.name, q.Len())
			}
		}
	}
}

func TestSet(t *testing.T) {
	for _, c := range []struct {
		id       int
		key, due int64
		want     []Item
	}{
		{4, 4, 40, []Item{{2, 20, 2}, {4, 40, 4}, {6, 60, 6}}},
		{4, 4, 10, []Item{{2, 20, 2}, {4, 10, 4}, {6, 60, 6}}},
		{4, 1, 40, []Item{{1, 40, 4}, {2, 20, 2}, {6, 60, 6}}},
		{4, 2, 20, []Item{{2, 20, 2}, {2, 20, 4}, {6, 60, 6}}},
		{4, 6, 70, []Item{{2, 20, 2}, {6, 70, 4}, {6, 60, 6}}},
		{4, 7, 0, []Item{{2, 20, 2}, {6, 60, 6}, {7, 0, 4}}},
		{2, topKey, lowKey, []Item{{4, 40, 4}, {6, 60, 6}, {topKey, lowKey, 2}}},
		{6, lowKey, topKey, []Item{{lowKey, topKey, 6}, {2, 20, 2}, {4, 40, 4}}},
		{6, 60, 6, []Item{{2, 20, 2}, {4, 40, 4}, {60, 6, 6}}},
	} {
		// Full, for Set needs no room.
		q := filled(t, 3, Item{6, 60, 6}, Item{2, 20, 2}, Item{4, 40, 4})
		if !q.Set(c.id, c.key, c.due) {
			t.Errorf("P5.1: Set(%d, %d, %d) finds none", c.id, c.key, c.due)
		}
		same(t, q, &model{items: c.want}, lowKey, 1, 2, 4, 6, 7, 60, topKey)
		want, _ := (&model{items: c.want}).drop(c.id)
		if x, ok := q.Drop(c.id); !ok || x != want {
			t.Errorf("P5.1: Drop(%d) behind Set: %v, %v, want %v", c.id, x, ok, want)
		}
	}
}

// turn makes one change in the queue and in the model.
func turn(t *testing.T, q *Q, m *model, c *chance, key, due int64, id int) {
	t.Helper()
	switch c.next(5) {
	case 0, 1, 2:
		if got, want := q.Put(key, due, id), m.put(key, due, id); got != want {
			t.Fatalf("P5.1: Put(%d, %d, %d) = %d, want %d", key, due, id, got, want)
		}
	case 3:
		if got, want := q.Set(id, key, due), m.set(id, key, due); got != want {
			t.Fatalf("P5.1: Set(%d, %d, %d) = %v, want %v", id, key, due, got, want)
		}
	default:
		x, ok := q.Drop(id)
		if want, there := m.drop(id); x != want || ok != there {
			t.Fatalf("P5.1: Drop(%d) = %v, %v, want %v, %v", id, x, ok, want, there)
		}
	}
}

// TestPlays holds long plays against the model, in queues of several sizes,
// with few and with many equal keys and deadlines.
func TestPlays(t *testing.T) {
	for _, p := range []struct{ most, ids, keys, dues, turns int }{
		{1, 3, 3, 3, 300}, {2, 4, 2, 2, 600}, {5, 8, 4, 1, 2000}, {16, 20, 1, 4, 2000},
		{64, 70, 9, 9, 4000}, {64, 70, 1 << 20, 5, 4000}, {300, 400, 30, 1 << 20, 6000}, {4096, 4300, 50, 50, 12000},
	} {
		var c chance
		q, m := New(p.most), &model{most: p.most}
		for n := range p.turns {
			id := c.next(p.ids) - p.ids/2
			key, due := int64(c.next(p.keys)-p.keys/2), int64(c.next(p.dues)-p.dues/2)
			turn(t, q, m, &c, key, due, id)
			if x, ok := q.Get(id); ok != (m.find(id) >= 0) || !ok && x != (Item{}) {
				t.Fatalf("P5.1: Get(%d) = %v, %v", id, x, ok)
			}
			if n%(1+p.most/8) == 0 {
				same(t, q, m, lowKey, key-1, key, key+1, topKey)
			}
		}
	}
}

func five(t *testing.T) *Q {
	return filled(t, 9, Item{7, 3, 1}, Item{2, 8, 2}, Item{9, -1, 3}, Item{2, 8, 4}, Item{1, 9, 5})
}

// fiveInOrder are the items of five.
func fiveInOrder() []Item {
	return []Item{{1, 9, 5}, {2, 8, 2}, {2, 8, 4}, {7, 3, 1}, {9, -1, 3}}
}

func TestAllStopsAndStartsAgain(t *testing.T) {
	all, want := five(t).All(), fiveInOrder()
	for n := range want {
		var got []Item
		for x := range all {
			got = append(got, x)
			if len(got) == n+1 {
				break
			}
		}
		if !slices.Equal(got, want[:n+1]) {
			t.Errorf("P5.1: All stopped at %d: %v, want %v", n, got, want[:n+1])
		}
		if got := slices.Collect(all); !slices.Equal(got, want) {
			t.Errorf("P5.1: All started again: %v, want %v", got, want)
		}
	}
	for outer := range all {
		if got := slices.Collect(all); !slices.Equal(got, want) {
			t.Errorf("P5.1: All within itself at %v: %v, want %v", outer, got, want)
		}
	}
}

func empty(q *Q) {
	for _, x := range q.List() {
		q.Drop(x.ID)
	}
}

// setAll gives every item another deadline, and its own key.
func setAll(q *Q) {
	for _, x := range q.List() {
		q.Set(x.ID, x.Key, x.Due+100)
	}
}

// TestAllKeepsItsItems: each change meets an iteration at each of its items,
// and the iteration goes on as if there had been none.
func TestAllKeepsItsItems(t *testing.T) {
	want := fiveInOrder()
	for name, change := range map[string]func(q *Q, x Item){
		"Drop of the item":       func(q *Q, x Item) { q.Drop(x.ID) },
		"Drop of all":            func(q *Q, x Item) { empty(q) },
		"Put at the front":       func(q *Q, x Item) { q.Put(lowKey, lowKey, 100+x.ID) },
		"Put behind the item":    func(q *Q, x Item) { q.Put(x.Key, x.Due, 100+x.ID) },
		"Put at the end":         func(q *Q, x Item) { q.Put(topKey, topKey, 100+x.ID) },
		"Set to the front":       func(q *Q, x Item) { q.Set(x.ID, lowKey, x.Due) },
		"Set to the end":         func(q *Q, x Item) { q.Set(x.ID, topKey, x.Due) },
		"Set of the last":        func(q *Q, x Item) { q.Set(3, 0, 0) },
		"Set of a deadline":      func(q *Q, x Item) { q.Set(x.ID, x.Key, lowKey) },
		"Set of all deadlines":   func(q *Q, x Item) { setAll(q) },
		"Drop of all and a Put":  func(q *Q, x Item) { empty(q); q.Put(3, 3, 50) },
		"Drop and Put of a last": func(q *Q, x Item) { q.Drop(3); q.Put(9, 55, 3) },
	} {
		for at := range want {
			q := five(t)
			var got []Item
			for x := range q.All() {
				if len(got) == at {
					change(q, x)
				}
				got = append(got, x)
			}
			if !slices.Equal(got, want) {
				t.Errorf("P5.1: All, with %s at item %d: %v, want %v", name, at, got, want)
			}
		}
	}
}

// TestIterationStartsLate: what counts is the start of the iteration, not the
// call that made the iterator.
func TestIterationStartsLate(t *testing.T) {
	q := New(9)
	all := q.All()
	for round := range 3 {
		q.Put(int64(round)*2, int64(-round), round)
		q.Set(0, 0, int64(round)+40)
		if got := slices.Collect(all); !slices.Equal(got, q.List()) || len(got) != round+1 {
			t.Errorf("P5.1: All made ahead: %v, want %v", got, q.List())
		}
	}
	empty(q)
	if got := slices.Collect(all); len(got) != 0 {
		t.Errorf("P5.1: All made ahead, of an empty queue: %v", got)
	}
}

func TestResultsAreNewMemory(t *testing.T) {
	q := five(t)
	first, second := q.List(), q.List()
	for i := range second[:cap(second)] {
		second[:cap(second)][i] = Item{-1, -1, -1}
	}
	if want := fiveInOrder(); !slices.Equal(first, want) || !slices.Equal(q.List(), want) {
		t.Errorf("R4: List shares memory: %v, %v, want %v", first, q.List(), want)
	}
	q.Put(8, 8, 8)
	q.Drop(2)
	setAll(q)
	if want := fiveInOrder(); !slices.Equal(first, want) {
		t.Errorf("R4: List follows the queue: %v, want %v", first, want)
	}
}

func TestQueuesStandAlone(t *testing.T) {
	a, b := five(t), New(2)
	b.Put(-1, -1, 1)
	b.Set(1, -2, -2)
	a.Drop(5)
	same(t, a, &model{items: fiveInOrder()[1:]}, 1, 2, 7, 9)
	same(t, b, &model{items: []Item{{-2, -2, 1}}}, -3, -2)
}
