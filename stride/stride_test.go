package stride

import (
	"fmt"
	"math"
	"slices"
	"strings"
	"testing"

	"stadholder/api"
	"stadholder/owed"
	"stadholder/weight"
)

const (
	top      = math.MaxInt
	low      = math.MinInt
	most     = int64(1) << 50 // the greatest Lag
	half     = int64(1) << 60 // the greatest base of a new queue
	farthest = int64(1) << 61 // the greatest point that Charge leads to
	mostID   = 1 << 30
	tick     = int64(232792560) // of a task with weight 1
)

// chance answers numbers without order, the same ones at every run.
type chance uint64

func (c *chance) below(n int) int {
	*c = *c*6364136223846793005 + 1442695040888963407
	return int(uint64(*c) >> 33 % uint64(n))
}

// one is a task of the plain model.
type one struct {
	id, w int
	point int64
}

// plain is a queue as a list of tasks, in the order in which they came.
type plain struct {
	base  int64
	cur   int
	tasks []one
}

func seeded(f owed.Form, base int64) *plain {
	m := &plain{base: base, cur: f.Cur}
	for _, x := range f.L {
		m.tasks = append(m.tasks, one{x.ID, x.W, base - x.Lag})
	}
	return m
}

func (m *plain) find(id int) int {
	return slices.IndexFunc(m.tasks, func(x one) bool { return x.id == id })
}

// first is the place of the task that none of the others is before, or -1.
func (m *plain) first() int {
	return slices.IndexFunc(m.tasks, func(x one) bool {
		return !slices.ContainsFunc(m.tasks, func(y one) bool {
			return y.point < x.point || y.point == x.point && y.id < x.id
		})
	})
}

func (m *plain) follow() {
	if at := m.first(); at >= 0 && m.tasks[at].point > m.base {
		m.base = m.tasks[at].point
	}
}

func (m *plain) enter(id, w int, lag int64, exact bool) api.Errno {
	switch {
	case id < 0, id > mostID, w < 1, w > 20, lag < -most, lag > most:
		return api.EARG
	case m.find(id) >= 0:
		return api.ESTATE
	case len(m.tasks) == 64:
		return api.EFULL
	}
	if !exact && lag > 0 {
		lag = 0
	}
	m.tasks = append(m.tasks, one{id, w, m.base - lag})
	m.follow()
	return api.OK
}

func (m *plain) leave(id int) (int64, api.Errno) {
	at := m.find(id)
	if at < 0 {
		return 0, api.EID
	}
	lag := m.base - m.tasks[at].point
	m.tasks = slices.Delete(m.tasks, at, at+1)
	if m.cur == id {
		m.cur = -1
	}
	m.follow()
	return lag, api.OK
}

func (m *plain) weigh(id, w int) api.Errno {
	at := m.find(id)
	if at < 0 {
		return api.EID
	}
	if w < 1 || w > 20 {
		return api.EARG
	}
	m.tasks[at].w = w
	m.follow()
	return api.OK
}

func (m *plain) pick() (int, bool) {
	at := m.first()
	if at < 0 {
		m.cur = -1
		return 0, false
	}
	m.cur = m.tasks[at].id
	return m.cur, true
}

func (m *plain) charge() (int, api.Errno) {
	if m.cur == -1 {
		return 0, api.ENONE
	}
	x := &m.tasks[m.find(m.cur)]
	next := x.point + tick/int64(x.w)
	if next > farthest {
		return 0, api.EOVER
	}
	x.point = next
	m.follow()
	return m.cur, api.OK
}

func (m *plain) back() bool {
	ran := m.cur != -1
	m.cur = -1
	return ran
}

// state is all that is to be seen of a queue.
func (m *plain) state() string {
	l := slices.Clone(m.tasks)
	slices.SortFunc(l, func(a, b one) int { return a.id - b.id })
	words := []string{fmt.Sprintf("%d:", m.cur)}
	for _, x := range l {
		words = append(words, fmt.Sprintf("%d/%d/%d", x.id, x.w, m.base-x.point))
	}
	return strings.Join(words, " ") + " @" + fmt.Sprint(m.base)
}

func state(q *Q) string {
	return owed.Text(q.Form()) + " @" + fmt.Sprint(q.Base())
}

func form(cur int, l ...owed.Item) owed.Form { return owed.Form{Cur: cur, L: l} }

func item(id, w int, lag int64) owed.Item { return owed.Item{ID: id, W: w, Lag: lag} }

// made is a new queue, where a base is accepted.
func made(t *testing.T, base int64) *Q {
	t.Helper()
	q, e := New(base)
	if e != api.OK || q == nil {
		t.Fatalf("P11.1: New(%d): %d", base, e)
	}
	return q
}

// grown is a queue seeded with a form, where both are accepted.
func grown(t *testing.T, f owed.Form, base int64) *Q {
	t.Helper()
	q, e := Seed(f, base)
	if e != api.OK || q == nil {
		t.Fatalf("P11.1: Seed(%s, %d): %d", owed.Text(f), base, e)
	}
	return q
}

// done is for a call that is to be accepted.
func done(t *testing.T, e api.Errno) {
	t.Helper()
	if e != api.OK {
		t.Fatalf("P11.1: error %d of a call that is to be accepted", e)
	}
}

// holds tells when a queue is not in a state.
func holds(t *testing.T, why string, q *Q, want string) {
	t.Helper()
	if got := state(q); got != want {
		t.Errorf("P11.1: %s: %s, want %s", why, got, want)
	}
}

func bases() []int64 {
	return []int64{0, 1, -1, 77, -12345, 1 << 32, -1 << 32, half - 1, half, -half, 1 - half}
}

func wrongBases() []int64 {
	return []int64{half + 1, -half - 1, farthest, -farthest, half + 1<<32, -half - 1<<32, top - 1, top, low, low + 1}
}

func TestNew(t *testing.T) {
	for _, base := range bases() {
		q := made(t, base)
		holds(t, "New", q, fmt.Sprintf("-1: @%d", base))
	}
	for _, base := range wrongBases() {
		if q, e := New(base); q != nil || e != api.EARG {
			t.Errorf("P11.1: New(%d): %v, %d, want nil, EARG", base, q, e)
		}
	}
}

// right are forms that a queue is seeded with.
func right() []owed.Form {
	full := form(-1)
	for i := range 64 {
		full.L = append(full.L, item(i, 1+i%20, int64(-i)))
	}
	last := form(63)
	for i := range 64 {
		last.L = append(last.L, item(i, 20-i%20, int64(i-63)))
	}
	return []owed.Form{form(-1), {Cur: -1, L: []owed.Item{}}, full, last,
		form(-1, item(0, 1, 0)), form(0, item(0, 20, 0)), form(mostID, item(mostID, 7, most)), form(1, item(1, 2, 0), item(3, 1, -5)),
		form(-1, item(1, 1, -most), item(2, 1, 0)), form(2, item(1, 1, -9), item(2, 1, -4), item(3, 1, 0)), form(1, item(1, 1, -most), item(2, 20, most)),
		form(-1, item(1, 1, -1), item(2, 1, 1)), form(3, item(1, 1, 4), item(2, 2, 4), item(3, 3, 4))}
}

// wrong are forms that are not valid, each for a reason of its own.
func wrong() []owed.Form {
	many := form(-1)
	for i := range 65 {
		many.L = append(many.L, item(i, 1, 0))
	}
	return []owed.Form{many, form(0), form(-2), form(2, item(1, 1, 0)), form(-2, item(1, 1, 0)),
		form(-1, item(-1, 1, 0)), form(-1, item(mostID+1, 1, 0)), form(-1, item(1, 0, 0)), form(-1, item(1, 21, 0)),
		form(-1, item(1, 1, most+1)), form(-1, item(1, 1, 0), item(2, 1, -most-1)), form(-1, item(1, 1, -1)), form(1, item(1, 1, -1), item(2, 1, -2)),
		form(-1, item(1, 1, 0), item(1, 1, 0)), form(-1, item(2, 1, 0), item(1, 1, 0))}
}

func TestSeed(t *testing.T) {
	for _, f := range right() {
		for _, base := range bases() {
			q := grown(t, f, base)
			if !owed.Same(q.Form(), f) || q.Base() != base {
				t.Errorf("P11.1: Seed(%s, %d): %s", owed.Text(f), base, state(q))
			}
		}
		for _, base := range wrongBases() {
			if q, e := Seed(f, base); q != nil || e != api.EARG {
				t.Errorf("P11.1: Seed(%s, %d): %v, %d, want nil, EARG", owed.Text(f), base, q, e)
			}
		}
	}
	for _, f := range wrong() {
		for _, base := range append(bases(), wrongBases()...) {
			if q, e := Seed(f, base); q != nil || e != api.EARG {
				t.Errorf("P11.1: Seed(%s, %d): %v, %d, want nil, EARG", owed.Text(f), base, q, e)
			}
		}
	}
}

// TestEnterAndPut: where the point is to be seen is ahead of one with Lag 0,
// which keeps the base.
func TestEnterAndPut(t *testing.T) {
	for _, base := range bases() {
		for _, c := range []struct{ lag, entered int64 }{
			{0, 0}, {1, 0}, {-1, -1}, {most, 0}, {most - 1, 0}, {-most, -most}, {1 - most, 1 - most}, {tick, 0}, {-tick, -tick},
			{1 << 32, 0}, {-1 << 32, -1 << 32}, {3 * tick, 0}, {3*tick + 1, 0}, {-3*tick - 1, -3*tick - 1},
		} {
			q, p := made(t, base), made(t, base)
			done(t, q.Enter(5, 1, 0))
			done(t, p.Put(5, 1, 0))
			done(t, q.Enter(3, 20, c.lag))
			done(t, p.Put(3, 20, c.lag))
			holds(t, "Enter", q, fmt.Sprintf("-1: 3/20/%d 5/1/0 @%d", c.entered, base))
			holds(t, "Put", p, fmt.Sprintf("-1: 3/20/%d 5/1/0 @%d", c.lag, base))
		}
	}
}

// TestFirstOne: the base follows one who is alone and ahead, and does not fall
// to one who is behind.
func TestFirstOne(t *testing.T) {
	for _, base := range bases() {
		for _, lag := range []int64{0, -1, 1, -most, most, 1 - most, most - 1, -tick, tick, -1 << 32, 1 << 32} {
			q, p := made(t, base), made(t, base)
			done(t, q.Enter(0, 1, lag))
			done(t, p.Put(0, 1, lag))
			up := max(-lag, 0)
			holds(t, "Enter", q, fmt.Sprintf("-1: 0/1/0 @%d", base+up))
			holds(t, "Put", p, fmt.Sprintf("-1: 0/1/%d @%d", lag+up, base+up))
		}
	}
}

// TestPutErrors: which error comes ahead of which; none of the calls leaves a
// trace.
func TestPutErrors(t *testing.T) {
	some := grown(t, form(7, item(3, 2, 5), item(7, 1, 0)), 100)
	l := form(9, item(9, 1, 0))
	for i := range 63 {
		l.L = append(l.L, item(10+i, 1, 0))
	}
	full := grown(t, l, 100)
	for _, c := range []struct {
		q     *Q
		id, w int
		lag   int64
		want  api.Errno
	}{
		{some, -1, 1, 0, api.EARG}, {some, low, 1, 0, api.EARG}, {some, mostID + 1, 1, 0, api.EARG}, {some, top, 1, 0, api.EARG}, {some, 1<<32 + 1, 1, 0, api.EARG}, {some, -1<<32 + 1, 1, 0, api.EARG},
		{some, 1, 0, 0, api.EARG}, {some, 1, 21, 0, api.EARG}, {some, 1, -1, 0, api.EARG}, {some, 1, low, 0, api.EARG}, {some, 1, top, 0, api.EARG}, {some, 1, 1<<32 + 1, 0, api.EARG},
		{some, 1, 1, most + 1, api.EARG}, {some, 1, 1, -most - 1, api.EARG}, {some, 1, 1, top, api.EARG}, {some, 1, 1, low, api.EARG}, {some, 1, 1, low + 1, api.EARG},
		{some, 3, 0, 0, api.EARG}, {some, 3, 1, most + 1, api.EARG}, {some, 7, 21, 0, api.EARG}, {some, 7, 1, -most - 1, api.EARG},
		{full, -1, 1, 0, api.EARG}, {full, mostID + 1, 1, 0, api.EARG}, {full, 1, 0, 0, api.EARG}, {full, 1, 1, most + 1, api.EARG}, {full, 9, 1, -most - 1, api.EARG},
		{some, 3, 2, 5, api.ESTATE}, {some, 7, 20, most, api.ESTATE}, {some, 7, 1, -most, api.ESTATE},
		{full, 9, 1, 0, api.ESTATE}, {full, 72, 1, -1, api.ESTATE}, {full, 8, 1, 0, api.EFULL}, {full, 73, 1, -most, api.EFULL}, {full, mostID, 20, most, api.EFULL}, {full, 0, 20, 0, api.EFULL},
	} {
		was := state(c.q)
		if e := c.q.Enter(c.id, c.w, c.lag); e != c.want {
			t.Errorf("P11.1: Enter(%d, %d, %d): %d, want %d", c.id, c.w, c.lag, e, c.want)
		}
		if e := c.q.Put(c.id, c.w, c.lag); e != c.want {
			t.Errorf("P11.1: Put(%d, %d, %d): %d, want %d", c.id, c.w, c.lag, e, c.want)
		}
		if is := state(c.q); is != was {
			t.Errorf("R3: after error %d: %s, want %s", c.want, is, was)
		}
	}
	// Whoever was turned away takes no room, and may come when there is some.
	if _, e := full.Leave(10); e != api.OK || full.Enter(73, 20, 0) != api.OK || full.Enter(10, 1, 0) != api.EFULL {
		t.Errorf("P11.1: Leave and Enter of a full queue: %s", state(full))
	}
}

// TestAccepted holds what equals a limit.
func TestAccepted(t *testing.T) {
	for _, enter := range []func(*Q, int, int, int64) api.Errno{(*Q).Enter, (*Q).Put} {
		q := made(t, 0)
		for i, x := range []owed.Item{{ID: 0, W: 1, Lag: 0}, {ID: mostID, W: 20, Lag: 0}, {ID: mostID - 1, W: 10, Lag: most}, {ID: 1, W: 2, Lag: -most}} {
			if e := enter(q, x.ID, x.W, x.Lag); e != api.OK || len(q.Form().L) != i+1 {
				t.Errorf("P11.1: Enter or Put of %v: %d", x, e)
			}
		}
		p := made(t, 0)
		for i := range 64 {
			if e := enter(p, 63-i, 1, 0); e != api.OK {
				t.Errorf("P11.1: task %d: %d", i+1, e)
			}
		}
		if e := enter(p, 64, 1, 0); e != api.EFULL {
			t.Errorf("P11.1: task 65: %d, want EFULL", e)
		}
	}
}

func TestLeave(t *testing.T) {
	f := form(3, item(0, 1, -70), item(3, 2, 40), item(8, 3, -2), item(9, 20, -5))
	for _, base := range bases() {
		q := grown(t, f, base)
		for _, id := range []int{-1, 1, 2, 10, low, top, 1<<32 + 3, 3 - 1<<32, mostID} {
			if lag, e := q.Leave(id); lag != 0 || e != api.EID || !owed.Same(q.Form(), f) || q.Base() != base {
				t.Errorf("P11.1: Leave(%d): %d, %d, then %s", id, lag, e, state(q))
			}
		}
		for _, c := range []struct {
			id   int
			lag  int64
			then string
			up   int64
		}{
			{9, -5, "3: 0/1/-70 3/2/40 8/3/-2", 0}, {3, 40, "-1: 0/1/-68 8/3/0", 2}, {8, 0, "-1: 0/1/0", 70}, {0, 0, "-1:", 70},
		} {
			if lag, e := q.Leave(c.id); lag != c.lag || e != api.OK {
				t.Errorf("P11.1: Leave(%d): %d, %d, want %d", c.id, lag, e, c.lag)
			}
			holds(t, "Leave", q, fmt.Sprintf("%s @%d", c.then, base+c.up))
			if lag, e := q.Leave(c.id); lag != 0 || e != api.EID {
				t.Errorf("P11.1: Leave(%d) of one that left: %d, %d", c.id, lag, e)
			}
		}
		// The base stays where it was when the last task left.
		done(t, q.Enter(3, 1, 9))
		holds(t, "Enter after all left", q, fmt.Sprintf("-1: 3/1/0 @%d", base+70))
	}
	// Of another than Cur: Cur stays.
	q := grown(t, form(0, item(0, 1, 0), item(1, 1, 0)), 0)
	if lag, e := q.Leave(1); lag != 0 || e != api.OK {
		t.Errorf("P11.1: Leave: %d, %d", lag, e)
	}
	holds(t, "Leave of another than Cur", q, "0: 0/1/0 @0")
}

func TestWeigh(t *testing.T) {
	q := grown(t, form(3, item(0, 1, 0), item(3, 2, -7)), 50)
	for _, c := range []struct {
		id, w int
		want  api.Errno
		then  string
	}{
		{3, 20, api.OK, "3: 0/1/0 3/20/-7 @50"}, {0, 7, api.OK, "3: 0/7/0 3/20/-7 @50"}, {0, 7, api.OK, "3: 0/7/0 3/20/-7 @50"}, {3, 1, api.OK, "3: 0/7/0 3/1/-7 @50"},
		{1, 1, api.EID, "3: 0/7/0 3/1/-7 @50"}, {1, 0, api.EID, "3: 0/7/0 3/1/-7 @50"}, {-1, 21, api.EID, "3: 0/7/0 3/1/-7 @50"}, {-1, 1, api.EID, "3: 0/7/0 3/1/-7 @50"},
		{top, 1, api.EID, "3: 0/7/0 3/1/-7 @50"}, {low, low, api.EID, "3: 0/7/0 3/1/-7 @50"}, {1 << 32, 1, api.EID, "3: 0/7/0 3/1/-7 @50"},
		{0, 0, api.EARG, "3: 0/7/0 3/1/-7 @50"}, {0, 21, api.EARG, "3: 0/7/0 3/1/-7 @50"}, {3, -1, api.EARG, "3: 0/7/0 3/1/-7 @50"}, {3, low, api.EARG, "3: 0/7/0 3/1/-7 @50"},
		{3, top, api.EARG, "3: 0/7/0 3/1/-7 @50"}, {3, 1<<32 + 5, api.EARG, "3: 0/7/0 3/1/-7 @50"},
	} {
		if e := q.Weigh(c.id, c.w); e != c.want {
			t.Errorf("P11.1: Weigh(%d, %d): %d, want %d", c.id, c.w, e, c.want)
		}
		holds(t, fmt.Sprintf("Weigh(%d, %d)", c.id, c.w), q, c.then)
	}
	// A task that left and came again has the weight that it came with.
	done(t, q.Weigh(3, 9))
	q.Leave(3)
	if e := q.Weigh(3, 1); e != api.EID {
		t.Errorf("P11.1: Weigh of one that left: %d", e)
	}
	done(t, q.Enter(3, 4, 0))
	holds(t, "Enter again", q, "-1: 0/7/0 3/4/0 @50")
}

func TestPick(t *testing.T) {
	for _, c := range []struct {
		f    owed.Form
		want int
	}{
		{form(-1, item(4, 1, 0)), 4}, {form(-1, item(0, 1, 0)), 0}, {form(-1, item(mostID, 1, 0)), mostID},
		{form(-1, item(1, 1, -1), item(2, 1, 0)), 2}, {form(1, item(1, 1, -1), item(2, 1, 0)), 2}, {form(2, item(1, 1, 0), item(2, 1, -1)), 1},
		{form(-1, item(1, 1, 0), item(2, 20, 0)), 1}, {form(2, item(1, 20, 0), item(2, 1, 0)), 1}, {form(3, item(1, 1, 0), item(2, 1, 1), item(3, 1, 1)), 2},
		{form(1, item(1, 20, most-1), item(2, 1, most)), 2}, {form(2, item(1, 20, most), item(2, 1, most)), 1}, {form(1, item(1, 1, -most), item(2, 1, 1-most), item(3, 1, 0)), 3},
		{form(1, item(1, 1, 0), item(2, 1, 1<<32)), 2}, {form(1, item(1, 1, -1<<32), item(2, 1, 0)), 2},
	} {
		for _, base := range bases() {
			q := grown(t, c.f, base)
			for range 3 {
				if id, ok := q.Pick(); id != c.want || !ok {
					t.Errorf("P11.1: Pick of %s: %d, %t, want %d", owed.Text(c.f), id, ok, c.want)
				}
				holds(t, "Pick", q, fmt.Sprintf("%s @%d", owed.Text(form(c.want, c.f.L...)), base))
			}
		}
	}
}

// TestPickOfNone: whatever was before, without tasks nobody runs.
func TestPickOfNone(t *testing.T) {
	q := made(t, 3)
	for range 3 {
		if id, ok := q.Pick(); id != 0 || ok {
			t.Errorf("P11.1: Pick without tasks: %d, %t", id, ok)
		}
		holds(t, "Pick without tasks", q, "-1: @3")
		done(t, q.Enter(9, 1, 0))
		if id, ok := q.Pick(); id != 9 || !ok {
			t.Errorf("P11.1: Pick of one: %d, %t", id, ok)
		}
		if _, e := q.Leave(9); e != api.OK {
			t.Errorf("P11.1: Leave: %d", e)
		}
	}
}

func TestCharge(t *testing.T) {
	for w := 1; w <= 20; w++ {
		for _, base := range bases() {
			step := tick / int64(w)
			q := grown(t, form(2, item(1, 1, 0), item(2, w, 5)), base)
			for n := int64(1); n <= 5; n++ {
				if id, e := q.Charge(); id != 2 || e != api.OK {
					t.Errorf("P11.1: Charge of weight %d: %d, %d", w, id, e)
				}
				// Not who is least, but Cur moves; the other one holds the base.
				holds(t, "Charge", q, fmt.Sprintf("2: 1/1/0 2/%d/%d @%d", w, 5-n*step, base))
			}
			alone := grown(t, form(7, item(7, w, 5)), base)
			if id, e := alone.Charge(); id != 7 || e != api.OK {
				t.Errorf("P11.1: Charge of weight %d, alone: %d, %d", w, id, e)
			}
			holds(t, "Charge of one alone", alone, fmt.Sprintf("7: 7/%d/0 @%d", w, base+step-5))
		}
	}
	// By the weight that it has now.
	q := grown(t, form(2, item(1, 1, 0), item(2, 1, 0)), 0)
	done(t, q.Weigh(2, 4))
	q.Charge()
	holds(t, "Weigh and Charge", q, fmt.Sprintf("2: 1/1/0 2/4/%d @0", -tick/4))
}

func TestChargeOfNobody(t *testing.T) {
	for _, f := range []owed.Form{form(-1), form(-1, item(0, 1, 0)), form(-1, item(0, 1, 0), item(1, 1, 5))} {
		q := grown(t, f, 5)
		if id, e := q.Charge(); id != 0 || e != api.ENONE || !owed.Same(q.Form(), f) || q.Base() != 5 {
			t.Errorf("P11.1: Charge of nobody: %d, %d, then %s", id, e, state(q))
		}
	}
}

// far is a queue whose base is MaxLag short of MaxKey: one task after another
// has come ahead of the base and left.
func far(t *testing.T) *Q {
	t.Helper()
	q := made(t, half)
	for range (farthest-half)/most - 1 {
		done(t, q.Put(0, 1, -most))
		if lag, e := q.Leave(0); lag != 0 || e != api.OK {
			t.Fatalf("P11.1: Leave of one alone: %d, %d", lag, e)
		}
	}
	holds(t, "far", q, fmt.Sprintf("-1: @%d", farthest-most))
	return q
}

func TestChargeOver(t *testing.T) {
	for w := 1; w <= 20; w++ {
		step := tick / int64(w)
		// Up to MaxKey, and not beyond.
		q := far(t)
		done(t, q.Put(4, w, -(most-step)))
		q.Pick()
		if id, e := q.Charge(); id != 4 || e != api.OK {
			t.Errorf("P11.1: Charge up to MaxKey: %d, %d", id, e)
		}
		holds(t, "Charge up to MaxKey", q, fmt.Sprintf("4: 4/%d/0 @%d", w, farthest))
		for range 2 {
			if id, e := q.Charge(); id != 0 || e != api.EOVER {
				t.Errorf("P11.1: Charge at MaxKey: %d, %d, want EOVER", id, e)
			}
			holds(t, "EOVER", q, fmt.Sprintf("4: 4/%d/0 @%d", w, farthest))
		}
		// One short of a whole step, while another one still has room.
		q = far(t)
		done(t, q.Put(4, w, -(most-step+1)))
		done(t, q.Put(5, 1, 3*tick))
		was := state(q)
		q.Pick()
		if id, e := q.Charge(); id != 5 || e != api.OK || state(q) == was {
			t.Errorf("P11.1: Charge of one with room: %d, %d", id, e)
		}
		if lag, e := q.Leave(5); lag != 2*tick || e != api.OK {
			t.Errorf("P11.1: Leave: %d, %d", lag, e)
		}
		q.Pick()
		if id, e := q.Charge(); id != 0 || e != api.EOVER {
			t.Errorf("P11.1: Charge beyond MaxKey: %d, %d, want EOVER", id, e)
		}
		holds(t, "EOVER", q, fmt.Sprintf("4: 4/%d/0 @%d", w, farthest-step+1))
		if !q.Back() {
			t.Errorf("P11.1: Back after EOVER")
		}
		if id, e := q.Charge(); id != 0 || e != api.ENONE {
			t.Errorf("P11.1: Charge of nobody, far: %d, %d, want ENONE", id, e)
		}
	}
}

// TestOver goes on beyond all bounds: every call ends, and the base never
// decreases.
func TestOver(t *testing.T) {
	for _, enter := range []func(*Q, int, int, int64) api.Errno{(*Q).Enter, (*Q).Put} {
		q := made(t, half)
		for n := range 20000 {
			was := q.Base()
			if e := enter(q, n%3, 1+n%20, -most); e != api.OK {
				t.Fatalf("P11.1: call %d: %d", n, e)
			}
			q.Pick()
			q.Charge()
			q.Weigh(n%3, 1)
			q.Form()
			if _, e := q.Leave(n % 3); e != api.OK || q.Base() < was || len(q.Form().L) != 0 {
				t.Fatalf("P11.1: call %d: %d, base %d after %d", n, e, q.Base(), was)
			}
		}
	}
}

func TestBack(t *testing.T) {
	q := made(t, 0)
	if q.Back() {
		t.Errorf("P11.1: Back without tasks")
	}
	done(t, q.Enter(0, 1, 0))
	done(t, q.Enter(1, 1, 0))
	if q.Back() {
		t.Errorf("P11.1: Back while nobody runs")
	}
	q.Pick()
	q.Charge()
	if !q.Back() || q.Back() {
		t.Errorf("P11.1: Back, twice")
	}
	holds(t, "Back", q, fmt.Sprintf("-1: 0/1/%d 1/1/0 @0", -tick))
	q.Pick()
	q.Leave(1)
	if q.Back() {
		t.Errorf("P11.1: Back after Cur left")
	}
	if p := grown(t, form(5, item(5, 1, 0)), 0); !p.Back() || p.Form().Cur != -1 {
		t.Errorf("P11.1: Back of a seeded queue")
	}
}

// TestBase: the base follows after each of the calls that the chapter names.
func TestBase(t *testing.T) {
	q := grown(t, form(1, item(1, 1, 30), item(2, 1, -10), item(3, 1, -20)), 1000)
	holds(t, "Seed", q, "1: 1/1/30 2/1/-10 3/1/-20 @1000")
	q.Charge()
	holds(t, "Charge", q, fmt.Sprintf("1: 1/1/%d 2/1/0 3/1/-10 @1010", 20-tick+20))
	q.Leave(2)
	holds(t, "Leave", q, fmt.Sprintf("1: 1/1/%d 3/1/0 @1020", 50-tick))
	done(t, q.Enter(2, 1, -1))
	holds(t, "Enter", q, fmt.Sprintf("1: 1/1/%d 2/1/-1 3/1/0 @1020", 50-tick))
	done(t, q.Put(4, 1, 5))
	q.Leave(3)
	holds(t, "Leave while one is behind", q, fmt.Sprintf("1: 1/1/%d 2/1/-1 4/1/5 @1020", 50-tick))
	q.Leave(4)
	q.Leave(2)
	holds(t, "Leave of all but one", q, fmt.Sprintf("1: 1/1/0 @%d", 1000-30+tick))
}

// picks are those who run in n ticks.
func picks(t *testing.T, q *Q, n int) []int {
	t.Helper()
	var l []int
	for range n {
		id, ok := q.Pick()
		ran, e := q.Charge()
		if !ok || e != api.OK || ran != id {
			t.Fatalf("P11.1: Pick and Charge: %d, %t, %d, %d", id, ok, ran, e)
		}
		l = append(l, id)
	}
	return l
}

func TestExample(t *testing.T) {
	for _, base := range bases() {
		q := made(t, base)
		done(t, q.Enter(1, 1, 0))
		done(t, q.Enter(2, 2, 0))
		if got := picks(t, q, 6); !slices.Equal(got, []int{1, 2, 2, 1, 2, 2}) {
			t.Errorf("P11.1: picks from base %d: %v", base, got)
		}
	}
}

// TestShares: tasks that all came with Lag 0 are never more than a tick of
// weight 1 apart, so each runs its share.
func TestShares(t *testing.T) {
	for _, ws := range [][]int{{1}, {1, 1}, {20, 1}, {1, 20, 7, 3, 3}, {13, 17, 19, 11, 1, 2}} {
		q := made(t, -9)
		total, served := 0, make([]int64, len(ws))
		for id, w := range ws {
			done(t, q.Enter(id, w, 0))
			total += w
		}
		for n := int64(1); n <= 500; n++ {
			served[picks(t, q, 1)[0]]++
			for id, w := range ws {
				if off := weight.Off(w, total, n, served[id]); max(off, -off) > int64(total*w) {
					t.Fatalf("P11.1: after %d ticks of the weights %v: task %d ran %d", n, ws, id, served[id])
				}
			}
			for _, x := range q.Form().L {
				if x.Lag > 0 || x.Lag < -tick {
					t.Fatalf("P11.1: after %d ticks of the weights %v: %s", n, ws, state(q))
				}
			}
		}
	}
}

// calls is what a queue and its plain model have in common.
type calls interface {
	enter(id, w int, lag int64, exact bool) api.Errno
	leave(id int) (int64, api.Errno)
	weigh(id, w int) api.Errno
	pick() (int, bool)
	charge() (int, api.Errno)
	back() bool
}

// asked is a queue under the names of the plain model.
type asked struct{ *Q }

func (q asked) enter(id, w int, lag int64, exact bool) api.Errno {
	if exact {
		return q.Put(id, w, lag)
	}
	return q.Enter(id, w, lag)
}
func (q asked) leave(id int) (int64, api.Errno) { return q.Leave(id) }
func (q asked) weigh(id, w int) api.Errno       { return q.Weigh(id, w) }
func (q asked) pick() (int, bool)               { return q.Pick() }
func (q asked) charge() (int, api.Errno)        { return q.Charge() }
func (q asked) back() bool                      { return q.Back() }

// lags are Lags of all sizes, and some that are too great.
func lags() []int64 {
	return []int64{0, 1, -1, 7, -7, tick, -tick, 2*tick - 1, -2*tick + 1, -tick / 3, tick / 7, 0, 0, most, -most, 1 << 32, -1 << 32, most + 1, -most - 1}
}

// play makes a call that is chosen by chance, of all that are given, and tells
// what each of them returned.
func play(c *chance, ids int, on ...calls) []string {
	op, id, w, lag := c.below(16), c.below(ids+2)-1, c.below(22), lags()[c.below(len(lags()))]
	told := make([]string, len(on))
	for i, q := range on {
		switch op {
		case 0, 1:
			told[i] = fmt.Sprint("Enter ", id, w, lag, ": ", q.enter(id, w, lag, false))
		case 2, 3:
			told[i] = fmt.Sprint("Put ", id, w, lag, ": ", q.enter(id, w, lag, true))
		case 4, 5:
			was, e := q.leave(id)
			told[i] = fmt.Sprint("Leave ", id, ": ", was, e)
		case 6:
			told[i] = fmt.Sprint("Weigh ", id, w, ": ", q.weigh(id, w))
		case 7:
			told[i] = fmt.Sprint("Back: ", q.back())
		case 8, 9, 10, 11:
			who, ok := q.pick()
			told[i] = fmt.Sprint("Pick: ", who, ok)
		default:
			who, e := q.charge()
			told[i] = fmt.Sprint("Charge: ", who, e)
		}
	}
	return told
}

// TestPlay holds queues against plain lists, call by call.
func TestPlay(t *testing.T) {
	for n, ids := range []int{1, 2, 3, 5, 10, 40, 80, 100} {
		c := chance(n)
		for _, base := range bases() {
			f := right()[c.below(len(right()))]
			q, m := grown(t, f, base), seeded(f, base)
			for i := range 900 {
				told := play(&c, ids, asked{q}, m)
				if told[0] != told[1] || state(q) != m.state() {
					t.Fatalf("P11.1: %d IDs, base %d, call %d: %s, want %s; then %s, want %s", ids, base, i, told[0], told[1], state(q), m.state())
				}
			}
		}
	}
}

// TestLongPlay goes on from the base 0 for long: what is owed to whom is told
// only by the calls that were made.
func TestLongPlay(t *testing.T) {
	c := chance(11)
	q, m := made(t, 0), seeded(form(-1), 0)
	for i := range 30000 {
		if i%1000 == 0 {
			// Points near the bounds are TestChargeOver's.
			f := right()[i/1000%len(right())]
			q, m = grown(t, f, 0), seeded(f, 0)
		}
		told := play(&c, 70, asked{q}, m)
		if told[0] != told[1] || i%10 == 0 && state(q) != m.state() {
			t.Fatalf("P11.1: call %d: %s, want %s; then %s, want %s", i, told[0], told[1], state(q), m.state())
		}
		if e := q.Base(); e != m.base {
			t.Fatalf("P11.1: call %d: base %d, want %d", i, e, m.base)
		}
	}
}

// TestBasesAlike: queues that differ only in their base behave equally, for
// fewer than 1,000 calls.
func TestBasesAlike(t *testing.T) {
	for n, f := range right() {
		var on []calls
		for _, base := range bases() {
			on = append(on, asked{grown(t, f, base)})
		}
		c := chance(n)
		for i := range 999 {
			told := play(&c, 6, on...)
			text := owed.Text(on[0].(asked).Form())
			for k, q := range on {
				if told[k] != told[0] || owed.Text(q.(asked).Form()) != text {
					t.Fatalf("P11.2: of %s, call %d: base %d: %s, want %s", owed.Text(f), i, bases()[k], told[k], told[0])
				}
			}
		}
	}
}

// TestFarBasesAlike: the same where each call raises the base as far as a call
// can.
func TestFarBasesAlike(t *testing.T) {
	a, b, d := made(t, half), made(t, -half), made(t, 0)
	for i := range 499 {
		lag := -most + int64(i%3)
		for _, q := range []*Q{a, b, d} {
			done(t, q.Put(i, 1, lag))
		}
		text := owed.Text(a.Form())
		if text != owed.Text(b.Form()) || text != owed.Text(d.Form()) || len(a.Form().L) != 1 {
			t.Fatalf("P11.2: Put %d: %s", i, text)
		}
		for _, q := range []*Q{a, b, d} {
			if lag, e := q.Leave(i); lag != 0 || e != api.OK {
				t.Fatalf("P11.2: Leave %d: %d, %d", i, lag, e)
			}
		}
	}
	if a.Base()-half != d.Base() || b.Base()+half != d.Base() {
		t.Errorf("P11.2: bases %d, %d, %d", a.Base(), b.Base(), d.Base())
	}
}

// TestSeedsAlike: a queue that is seeded with the form of another one goes on
// as that one does, whatever it went through.
func TestSeedsAlike(t *testing.T) {
	for n, f := range right() {
		c := chance(100 + n)
		old := grown(t, f, 12)
		for range 10 {
			for range 40 {
				play(&c, 8, asked{old})
			}
			form := old.Form()
			if !owed.Good(form) {
				t.Fatalf("P11.2: not valid: %s", owed.Text(form))
			}
			a, b := grown(t, form, 12), grown(t, form, -half)
			for i := range 60 {
				told := play(&c, 8, asked{old}, asked{a}, asked{b})
				if told[0] != told[1] || told[0] != told[2] || !owed.Same(old.Form(), a.Form()) || !owed.Same(old.Form(), b.Form()) {
					t.Fatalf("P11.2: from %s, call %d: %v", owed.Text(form), i, told)
				}
			}
		}
	}
}

// TestOwnMemory: forms that go in and come out share nothing with the queue
// nor with each other.
func TestOwnMemory(t *testing.T) {
	room := []owed.Item{item(1, 2, 0), item(3, 1, -5), item(4, 4, 4)}
	was := slices.Clone(room)
	q := grown(t, owed.Form{Cur: 3, L: room[:2]}, 7)
	a, b := q.Form(), q.Form()
	for _, f := range []owed.Form{a, b} {
		if !owed.Same(f, form(3, was[:2]...)) {
			t.Errorf("P11.1: Form: %s", owed.Text(f))
		}
	}
	for i := range a.L[:cap(a.L)] {
		a.L[:cap(a.L)][i] = item(9, 9, 9)
	}
	for i := range b.L[:cap(b.L)] {
		if b.L[:cap(b.L)][i].ID == 9 {
			t.Errorf("R4: two Forms share memory")
		}
	}
	if !slices.Equal(room, was) {
		t.Errorf("R4: what was handed in: %v", room)
	}
	for i := range room {
		room[i] = item(8, 8, 8)
	}
	holds(t, "after a change of the lists", q, "3: 1/2/0 3/1/-5 @7")
	if q.Pick(); !owed.Same(b, form(3, was[:2]...)) {
		t.Errorf("R4: a Form changes with the queue: %s", owed.Text(b))
	}
}

// TestApart: queues have nothing to do with each other.
func TestApart(t *testing.T) {
	f := form(1, item(1, 1, 0))
	q, p, r := grown(t, f, 0), grown(t, f, 0), made(t, 0)
	q.Charge()
	done(t, q.Weigh(1, 5))
	done(t, q.Enter(2, 1, 0))
	q.Pick()
	holds(t, "a queue beside another one", p, "1: 1/1/0 @0")
	holds(t, "an empty queue beside others", r, "-1: @0")
}
