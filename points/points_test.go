package points

import (
	"math"
	"slices"
	"testing"

	"stadholder/api"
	"stadholder/ordq"
	"stadholder/owed"
)

// The tests of the policies hold what they hand on; here is what they build on.

const most = int64(1) << 50 // the greatest Lag

// grown is one seeded with items, of which one runs.
func grown(t *testing.T, base int64, cur int, l ...owed.Item) *Q {
	t.Helper()
	q, e := Seed(owed.Form{Cur: cur, L: l}, base)
	if e != api.OK || q == nil {
		t.Fatalf("P11.1, P12.1: Seed: %d", e)
	}
	return q
}

func TestGoodLag(t *testing.T) {
	for _, c := range []struct {
		lag  int64
		want bool
	}{{0, true}, {most, true}, {-most, true}, {most + 1, false}, {-most - 1, false}, {math.MaxInt64, false}, {math.MinInt64, false}} {
		if got := GoodLag(c.lag); got != c.want {
			t.Errorf("P11.1, P12.1: GoodLag(%d): %t", c.lag, got)
		}
	}
}

// TestLeastAndCur: both are told with their points, which are the base less
// the lag.
func TestLeastAndCur(t *testing.T) {
	for _, c := range []struct {
		cur         int
		l           []owed.Item
		least, runs ordq.Item
	}{
		{-1, nil, ordq.Item{}, ordq.Item{}},
		{-1, []owed.Item{{ID: 7, W: 1, Lag: 3}}, ordq.Item{Key: 97, ID: 7}, ordq.Item{}},
		{0, []owed.Item{{ID: 0, W: 1, Lag: 0}}, ordq.Item{Key: 100}, ordq.Item{Key: 100}},
		{2, []owed.Item{{ID: 2, W: 1, Lag: -9}, {ID: 4, W: 2, Lag: 5}, {ID: 5, W: 1, Lag: 5}}, ordq.Item{Key: 95, ID: 4}, ordq.Item{Key: 109, ID: 2}},
	} {
		q := grown(t, 100, c.cur, c.l...)
		if x, some := q.Least(); x != c.least || some != (len(c.l) > 0) {
			t.Errorf("P11.1, P12.1: Least of %v: %v, %t", c.l, x, some)
		}
		if x, runs := q.Cur(); x != c.runs || runs != (c.cur >= 0) {
			t.Errorf("P11.1, P12.1: Cur of %v: %v, %t", c.l, x, runs)
		}
		id, ok := q.PickLeast()
		if id != c.least.ID || ok != (len(c.l) > 0) {
			t.Errorf("P11.1, P12.1: PickLeast of %v: %d, %t", c.l, id, ok)
		}
		if x, runs := q.Cur(); x != c.least || runs != ok {
			t.Errorf("P11.1, P12.1: Cur after PickLeast of %v: %v, %t", c.l, x, runs)
		}
		if x, runs := q.Cur(); q.Back() != runs || q.Back() {
			t.Errorf("P11.1, P12.1: Back of %v", x)
		}
		if x, runs := q.Cur(); x != (ordq.Item{}) || runs {
			t.Errorf("P11.1, P12.1: Cur after Back: %v, %t", x, runs)
		}
	}
}

// TestTasks: all tasks are told in the order of their points, and one by its
// ID, as they are after each call.
func TestTasks(t *testing.T) {
	q := grown(t, 100, -1)
	for i, c := range []struct {
		do   func()
		want []Task
	}{
		{func() {}, nil},
		{func() { q.Put(4, 2, 5) }, []Task{{4, 2, 95}}},
		{func() { q.Put(0, 20, -9) }, []Task{{4, 2, 95}, {0, 20, 109}}},
		{func() { q.Put(7, 1, 5); q.Put(3, 3, 5) }, []Task{{3, 3, 95}, {4, 2, 95}, {7, 1, 95}, {0, 20, 109}}},
		{func() { q.Weigh(4, 1); q.Weigh(9, 1) }, []Task{{3, 3, 95}, {4, 1, 95}, {7, 1, 95}, {0, 20, 109}}},
		{func() { q.Pick(4); q.Charge() }, []Task{{3, 3, 95}, {7, 1, 95}, {0, 20, 109}, {4, 1, 95 + api.Scale}}},
		{func() { q.Leave(7); q.Leave(7) }, []Task{{3, 3, 95}, {0, 20, 109}, {4, 1, 95 + api.Scale}}},
		{func() { q.Leave(3) }, []Task{{0, 20, 109}, {4, 1, 95 + api.Scale}}},
	} {
		c.do()
		l := q.List()
		if !slices.Equal(l, c.want) {
			t.Errorf("P13.1: List after call %d: %v, want %v", i, l, c.want)
		}
		for id := -1; id < 9; id++ {
			at := slices.IndexFunc(c.want, func(x Task) bool { return x.ID == id })
			if x, there := q.Find(id); there != (at >= 0) || there && x != c.want[at] || !there && x != (Task{}) {
				t.Errorf("P13.1: Find(%d) after call %d: %v, %t", id, i, x, there)
			}
		}
	}
}

// TestPick: a task runs from then on, or none if there is no such task.
func TestPick(t *testing.T) {
	q := grown(t, 100, 2, owed.Item{ID: 0, W: 1, Lag: 0}, owed.Item{ID: 2, W: 1, Lag: -5})
	for _, c := range []struct {
		id, want int
		there    bool
	}{{0, 0, true}, {2, 2, true}, {2, 2, true}, {1, 0, false}, {0, 0, true}, {-1, 0, false}, {math.MinInt, 0, false}, {2, 2, true}, {math.MaxInt, 0, false}} {
		if id, there := q.Pick(c.id); id != c.want || there != c.there {
			t.Errorf("P13.1: Pick(%d): %d, %t", c.id, id, there)
		}
		if x, runs := q.Cur(); runs != c.there || x.ID != c.want {
			t.Errorf("P13.1: Cur after Pick(%d): %v, %t", c.id, x, runs)
		}
	}
}

// TestEndOfPoints: at the end of 64 bits points stand, and one who came ahead
// is still not behind the others.
func TestEndOfPoints(t *testing.T) {
	q, _ := New(0)
	for range 8193 {
		if e := q.Put(9, 1, -most); e != api.OK {
			t.Fatalf("P11.1, P12.1: Put: %d", e)
		}
		q.Leave(9)
	}
	if q.Base() != math.MaxInt64 {
		t.Fatalf("P11.1, P12.1: the base at the end: %d", q.Base())
	}
	q.Put(1, 1, 7)
	q.Put(2, 1, 0)
	q.Put(3, 1, -most)
	if got := owed.Text(q.Form()); got != "-1: 1/1/7 2/1/0 3/1/0" || q.Base() != math.MaxInt64 {
		t.Errorf("P11.1, P12.1: tasks at the end: %s", got)
	}
	if id, ok := q.PickLeast(); id != 1 || !ok {
		t.Errorf("P11.1, P12.1: PickLeast at the end: %d, %t", id, ok)
	}
	if id, e := q.Charge(); id != 0 || e != api.EOVER {
		t.Errorf("P11.1, P12.1: Charge at the end: %d, %d", id, e)
	}
}
