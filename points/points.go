// Package points: tasks at their points, and a base that follows the least of
// them. It is no layer, but what the queues of the policies have in common.
package points

import (
	"cmp"
	"math"
	"slices"

	"stadholder/api"
	"stadholder/ordq"
	"stadholder/owed"
	"stadholder/weight"
)

const (
	// nobody is Cur while no task runs.
	nobody = -1
	maxID  = 1 << 30
	// maxBase leaves room for the points to grow.
	maxBase = api.MaxKey / 2
)

// Task is a task at its point.
type Task struct {
	ID, W int
	Point int64
}

// Q holds tasks at their points, and knows which of them runs.
type Q struct {
	base    int64
	cur     int
	points  *ordq.Q
	weights map[int]int // of exactly the IDs that are in points
}

// New makes an empty one.
func New(base int64) (*Q, api.Errno) {
	if base < -maxBase || base > maxBase {
		return nil, api.EARG
	}
	return &Q{base: base, cur: nobody, points: ordq.New(api.MaxTasks), weights: map[int]int{}}, api.OK
}

// Seed makes one of what is owed.
func Seed(f owed.Form, base int64) (*Q, api.Errno) {
	q, e := New(base)
	if e != api.OK {
		return nil, e
	}
	if !owed.Good(f) {
		return nil, api.EARG
	}
	// Not by Put: the base may not rise before the last task is there.
	for _, x := range f.L {
		q.add(x)
	}
	q.cur = f.Cur
	return q, api.OK
}

// GoodLag tells whether a task may come with a lag. A policy that clamps lags
// asks first: clamped, one that is out of bounds would not be seen any more.
func GoodLag(lag int64) bool {
	return lag >= -api.MaxLag && lag <= api.MaxLag
}

// Put adds a task with just that lag.
func (q *Q) Put(id, w int, lag int64) api.Errno {
	x := owed.Item{ID: id, W: w, Lag: lag}
	if !mayEnter(x) {
		return api.EARG
	}
	if e := q.add(x); e != api.OK {
		return e
	}
	q.raise()
	return api.OK
}

// Leave takes a task out and tells its lag.
func (q *Q) Leave(id int) (int64, api.Errno) {
	x, there := q.points.Drop(id)
	if !there {
		return 0, api.EID
	}
	delete(q.weights, id)
	if q.cur == id {
		q.cur = nobody
	}
	// The task leaves by the base that it had, not by that of those who stay.
	lag := q.lag(x.Key)
	q.raise()
	return lag, api.OK
}

// Weigh gives a task another weight.
func (q *Q) Weigh(id, w int) api.Errno {
	if _, there := q.weights[id]; !there {
		return api.EID
	}
	if !weight.Good(w) {
		return api.EARG
	}
	// No point changes, so neither does the base.
	q.weights[id] = w
	return api.OK
}

// Find tells the task with an ID, or false if there is none.
func (q *Q) Find(id int) (Task, bool) {
	point, there := q.points.Key(id)
	if !there {
		return Task{}, false
	}
	return Task{ID: id, W: q.weights[id], Point: point}, true
}

// List tells all tasks, in the order of their points and then of their IDs.
func (q *Q) List() []Task {
	l := make([]Task, 0, q.points.Len())
	for _, x := range q.points.All() {
		l = append(l, Task{ID: x.ID, W: q.weights[x.ID], Point: x.Key})
	}
	return l
}

// Cur tells the task that runs, with its point as the key, or false if none
// does.
func (q *Q) Cur() (ordq.Item, bool) {
	point, runs := q.points.Key(q.cur)
	if !runs {
		return ordq.Item{}, false
	}
	return ordq.Item{Key: point, ID: q.cur}, true
}

// Least tells the task with the least point, and of several the one with the
// least ID.
func (q *Q) Least() (ordq.Item, bool) {
	return q.points.Min()
}

// PickLeast lets the task that Least tells run; without tasks, none does.
func (q *Q) PickLeast() (int, bool) {
	x, some := q.Least()
	if !some {
		q.cur = nobody
		return 0, false
	}
	return q.Pick(x.ID)
}

// Pick lets the task with an ID run; if there is none, no task runs.
func (q *Q) Pick(id int) (int, bool) {
	if _, there := q.weights[id]; !there {
		q.cur = nobody
		return 0, false
	}
	q.cur = id
	return id, true
}

// Charge moves the task that runs by a tick.
func (q *Q) Charge() (int, api.Errno) {
	x, runs := q.Cur()
	if !runs {
		return 0, api.ENONE
	}
	step := weight.Step(q.weights[x.ID])
	if x.Key > api.MaxKey-step {
		return 0, api.EOVER
	}
	q.points.Set(x.ID, x.Key+step)
	q.raise()
	return x.ID, api.OK
}

// Back lets no task run.
func (q *Q) Back() bool {
	ran := q.cur != nobody
	q.cur = nobody
	return ran
}

// Form tells what each is owed.
func (q *Q) Form() owed.Form {
	l := make([]owed.Item, 0, q.points.Len())
	for _, x := range q.List() {
		l = append(l, owed.Item{ID: x.ID, W: x.W, Lag: q.lag(x.Point)})
	}
	slices.SortFunc(l, func(a, b owed.Item) int { return cmp.Compare(a.ID, b.ID) })
	return owed.Form{Cur: q.cur, L: l}
}

// Base tells the base.
func (q *Q) Base() int64 {
	return q.base
}

// mayEnter tells whether a task may be put in, whoever is in already.
func mayEnter(x owed.Item) bool {
	return x.ID >= 0 && x.ID <= maxID && weight.Good(x.W) && GoodLag(x.Lag)
}

// add puts a task in and leaves the base as it is.
func (q *Q) add(x owed.Item) api.Errno {
	if e := q.points.Put(q.point(x.Lag), x.ID); e != api.OK {
		return e
	}
	q.weights[x.ID] = x.W
	return api.OK
}

// point answers how far a task with a lag is. Charge stops at MaxKey, but tasks
// that come and go ahead of the base raise it on and on: at the end of 64 bits
// it stands.
func (q *Q) point(lag int64) int64 {
	if lag < 0 && q.base > math.MaxInt64+lag {
		return math.MaxInt64
	}
	return q.base - lag
}

// lag answers what a task at a point is owed.
func (q *Q) lag(point int64) int64 {
	return q.base - point
}

// raise lets the base follow the least point, so that someone is owed at least
// 0; without tasks it has nothing to follow.
func (q *Q) raise() {
	if x, some := q.Least(); some {
		q.base = max(q.base, x.Key)
	}
}
