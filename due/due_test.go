package due

import (
	"fmt"
	"math"
	"math/big"
	"slices"
	"testing"

	"stadholder/api"
	"stadholder/owed"
	"stadholder/points"
	"stadholder/weight"
)

const (
	top      = math.MaxInt
	low      = math.MinInt
	most     = int64(1) << 50 // the greatest Lag
	half     = int64(1) << 60 // the greatest base of a new queue
	farthest = int64(1) << 61 // the greatest point that Charge leads to
	mostID   = 1 << 30
	tick     = int64(232792560) // of a task with weight 1
	bonus    = 3 * tick         // the greatest Lag that Enter leaves, either way
)

// queue is what a queue and its plain model have in common.
type queue interface {
	Enter(id, w int, lag int64) api.Errno
	Put(id, w int, lag int64) api.Errno
	Leave(id int) (int64, api.Errno)
	Weigh(id, w int) api.Errno
	Pick() (int, bool)
	Charge() (int, api.Errno)
	Back() bool
	Form() owed.Form
	Base() int64
}

// state is all that is to be seen of a queue.
func state(q queue) string {
	return fmt.Sprint(owed.Text(q.Form()), " @", q.Base())
}

// one is a task of the plain model.
type one struct {
	id, w      int
	point, due int64
}

// plain is a queue as a list of tasks, in the order in which they came.
type plain struct {
	base  int64
	cur   int
	tasks []one
}

// fresh is a task whose deadline is four ticks off.
func fresh(id, w int, point int64) one {
	return one{id, w, point, point + 4*(tick/int64(w))}
}

func seeded(f owed.Form, base int64) *plain {
	m := &plain{base: base, cur: f.Cur}
	for _, x := range f.L {
		m.tasks = append(m.tasks, fresh(x.ID, x.W, base-x.Lag))
	}
	return m
}

func (m *plain) find(id int) int {
	return slices.IndexFunc(m.tasks, func(x one) bool { return x.id == id })
}

func (m *plain) least() one {
	return slices.MinFunc(m.tasks, func(a, b one) int {
		if a.point != b.point {
			return int(max(min(a.point-b.point, 1), -1))
		}
		return a.id - b.id
	})
}

// follow ends a call that is followed by a change of the base.
func (m *plain) follow() api.Errno {
	for len(m.tasks) > 0 && m.least().point > m.base {
		m.base = m.least().point
	}
	return api.OK
}

func (m *plain) Enter(id, w int, lag int64) api.Errno {
	if lag > bonus && lag <= most {
		lag = bonus
	}
	if lag < -bonus && lag >= -most {
		lag = -bonus
	}
	return m.Put(id, w, lag)
}

func (m *plain) Put(id, w int, lag int64) api.Errno {
	switch {
	case id < 0, id > mostID, w < 1, w > 20, lag < -most, lag > most:
		return api.EARG
	case m.find(id) >= 0:
		return api.ESTATE
	case len(m.tasks) == 64:
		return api.EFULL
	}
	m.tasks = append(m.tasks, fresh(id, w, m.base-lag))
	return m.follow()
}

func (m *plain) Leave(id int) (int64, api.Errno) {
	at := m.find(id)
	if at < 0 {
		return 0, api.EID
	}
	lag := m.base - m.tasks[at].point
	m.tasks = slices.Delete(m.tasks, at, at+1)
	if m.cur == id {
		m.cur = -1
	}
	return lag, m.follow()
}

func (m *plain) Weigh(id, w int) api.Errno {
	at := m.find(id)
	if at < 0 {
		return api.EID
	}
	if w < 1 || w > 20 {
		return api.EARG
	}
	m.tasks[at] = fresh(id, w, m.tasks[at].point)
	return m.follow()
}

// mean is the sum of all weights, and that of all points times their weights.
func mean(tasks []one) (total, sum *big.Int) {
	total, sum = new(big.Int), new(big.Int)
	for _, x := range tasks {
		w := big.NewInt(int64(x.w))
		total.Add(total, w)
		sum.Add(sum, w.Mul(w, big.NewInt(x.point)))
	}
	return total, sum
}

func (m *plain) Pick() (int, bool) {
	total, sum := mean(m.tasks)
	best := one{id: -1}
	for _, x := range m.tasks {
		far := big.NewInt(x.point)
		if far.Mul(far, total).Cmp(sum) > 0 {
			continue
		}
		if best.id == -1 || x.due < best.due || x.due == best.due && x.id < best.id {
			best = x
		}
	}
	m.cur = best.id
	return max(best.id, 0), best.id != -1
}

func (m *plain) Charge() (int, api.Errno) {
	if m.cur == -1 {
		return 0, api.ENONE
	}
	x := &m.tasks[m.find(m.cur)]
	next := x.point + tick/int64(x.w)
	if next > farthest {
		return 0, api.EOVER
	}
	x.point = next
	if next >= x.due {
		*x = fresh(x.id, x.w, next)
	}
	return m.cur, m.follow()
}

func (m *plain) Back() bool {
	ran := m.cur != -1
	m.cur = -1
	return ran
}

func (m *plain) Form() owed.Form {
	f := owed.Form{Cur: m.cur}
	for _, x := range m.tasks {
		f.L = append(f.L, owed.Item{ID: x.id, W: x.w, Lag: m.base - x.point})
	}
	slices.SortFunc(f.L, func(a, b owed.Item) int { return a.ID - b.ID })
	return f
}

func (m *plain) Base() int64 { return m.base }

func form(cur int, l ...owed.Item) owed.Form { return owed.Form{Cur: cur, L: l} }

func item(id, w int, lag int64) owed.Item { return owed.Item{ID: id, W: w, Lag: lag} }

// made is a new queue, where a base is accepted.
func made(t *testing.T, base int64) *Q {
	t.Helper()
	q, e := New(base)
	if e != api.OK || q == nil {
		t.Fatalf("P13.1: New(%d): %d", base, e)
	}
	return q
}

// grown is a queue seeded with a form, where both are accepted.
func grown(t *testing.T, f owed.Form, base int64) *Q {
	t.Helper()
	q, e := Seed(f, base)
	if e != api.OK || q == nil {
		t.Fatalf("P13.1: Seed(%s, %d): %d", owed.Text(f), base, e)
	}
	return q
}

// done is for a call that is to be accepted.
func done(t *testing.T, e api.Errno) {
	t.Helper()
	if e != api.OK {
		t.Fatalf("P13.1: error %d of a call that is to be accepted", e)
	}
}

// holds tells when a queue is not in a state.
func holds(t *testing.T, why string, q *Q, want string) {
	t.Helper()
	if got := state(q); got != want {
		t.Errorf("P13.1: %s: %s, want %s", why, got, want)
	}
}

// picks tells when a queue does not pick a task.
func picks(t *testing.T, why string, q *Q, want int) {
	t.Helper()
	if id, ok := q.Pick(); id != want || !ok || q.Form().Cur != want {
		t.Errorf("P13.1: %s: Pick %d, %t, want %d; then %s", why, id, ok, want, state(q))
	}
}

// charges tells when it is not this task that runs a tick.
func charges(t *testing.T, why string, q *Q, want int) {
	t.Helper()
	if id, e := q.Charge(); id != want || e != api.OK {
		t.Errorf("P13.1: %s: Charge %d, %d, want %d", why, id, e, want)
	}
}

// leaves tells when a task does not leave with a lag.
func leaves(t *testing.T, q *Q, id int, want int64) {
	t.Helper()
	if lag, e := q.Leave(id); lag != want || e != api.OK {
		t.Errorf("P13.1: Leave(%d): %d, %d, want %d", id, lag, e, want)
	}
}

// refused tells when a call does not return an error and zero, or leaves a
// trace.
func refused[N int | int64](t *testing.T, why string, q *Q, call func() (N, api.Errno), want api.Errno) {
	t.Helper()
	was := state(q)
	if n, e := call(); n != 0 || e != want {
		t.Errorf("P13.1: %s: %d, error %d, want 0 and error %d", why, n, e, want)
	}
	if is := state(q); is != was {
		t.Errorf("R3: after error %d of %s: %s, want %s", want, why, is, was)
	}
}

func bases() []int64 {
	return []int64{0, 1, -1, 12345, -77, 1 << 32, half, half - 1, -half, 1 - half}
}

func wrongBases() []int64 {
	return []int64{half + 1, -half - 1, farthest, -farthest, half + 1<<32, top, low}
}

// right are forms that a queue is seeded with.
func right() []owed.Form {
	full := form(63)
	for i := range 64 {
		full.L = append(full.L, item(i, 1+i%20, int64(i%7)*-tick))
	}
	return []owed.Form{form(-1), {Cur: -1, L: []owed.Item{}}, full,
		form(-1, item(0, 1, 0)), form(0, item(0, 20, most)), form(mostID, item(1, 2, 0), item(mostID, 7, -most)), form(-1, item(1, 1, -1), item(2, 1, 1)),
		form(3, item(1, 2, 0), item(3, 1, -5)), form(2, item(1, 3, 500), item(2, 1, -9*tick), item(4, 20, 0)), form(3, item(1, 1, 2*tick), item(2, 2, tick), item(3, 4, -100*tick))}
}

// wrong are forms that are not valid, each for a reason of its own.
func wrong() []owed.Form {
	many := form(-1)
	for i := range 65 {
		many.L = append(many.L, item(i, 1, 0))
	}
	return []owed.Form{many, form(0), form(-2), form(2, item(1, 1, 0)), form(-1, item(-1, 1, 0)), form(-1, item(mostID+1, 1, 0)),
		form(-1, item(1, 0, 0)), form(-1, item(1, 21, 0)), form(-1, item(1, 1, most+1)), form(-1, item(1, 1, 0), item(2, 1, -most-1)),
		form(1, item(1, 1, -1)), form(-1, item(1, 1, 0), item(1, 1, 0)), form(-1, item(2, 1, 0), item(1, 1, 0))}
}

func TestNew(t *testing.T) {
	for _, base := range bases() {
		holds(t, "New", made(t, base), fmt.Sprint("-1: @", base))
	}
	for _, base := range wrongBases() {
		if q, e := New(base); q != nil || e != api.EARG {
			t.Errorf("P13.1: New(%d): %v, %d, want nil, EARG", base, q, e)
		}
	}
}

func TestSeed(t *testing.T) {
	for _, f := range right() {
		for _, base := range bases() {
			holds(t, "Seed", grown(t, f, base), fmt.Sprint(owed.Text(f), " @", base))
		}
		for _, base := range wrongBases() {
			if q, e := Seed(f, base); q != nil || e != api.EARG {
				t.Errorf("P13.1: Seed(%s, %d): %v, %d, want nil, EARG", owed.Text(f), base, q, e)
			}
		}
	}
	for _, f := range wrong() {
		for _, base := range append(bases(), wrongBases()...) {
			if q, e := Seed(f, base); q != nil || e != api.EARG {
				t.Errorf("P13.1: Seed(%s, %d): %v, %d, want nil, EARG", owed.Text(f), base, q, e)
			}
		}
	}
}

// TestClamp: Enter leaves a lag as it is up to Bonus either way, Put up to
// MaxLag. One with Lag 0 keeps the base where it is.
func TestClamp(t *testing.T) {
	for _, c := range []struct{ lag, entered int64 }{
		{0, 0}, {1, 1}, {-1, -1}, {tick, tick}, {-tick, -tick}, {bonus - 1, bonus - 1}, {bonus, bonus}, {bonus + 1, bonus}, {2 * bonus, bonus},
		{1 << 32, bonus}, {most - 1, bonus}, {most, bonus}, {1 - bonus, 1 - bonus}, {-bonus, -bonus}, {-bonus - 1, -bonus}, {-2 * bonus, -bonus},
		{-1 << 32, -bonus}, {1 - most, -bonus}, {-most, -bonus},
	} {
		for _, base := range bases() {
			q, p := grown(t, form(5, item(5, 1, 0)), base), grown(t, form(5, item(5, 1, 0)), base)
			done(t, q.Enter(3, 20, c.lag))
			done(t, p.Put(3, 20, c.lag))
			holds(t, "Enter", q, fmt.Sprintf("5: 3/20/%d 5/1/0 @%d", c.entered, base))
			holds(t, "Put", p, fmt.Sprintf("5: 3/20/%d 5/1/0 @%d", c.lag, base))
			// Alone: the base follows one who is ahead, not one who is behind.
			q, p = made(t, base), made(t, base)
			done(t, q.Enter(3, 20, c.lag))
			done(t, p.Put(3, 20, c.lag))
			holds(t, "Enter of one alone", q, fmt.Sprintf("-1: 3/20/%d @%d", max(c.entered, 0), base+max(-c.entered, 0)))
			holds(t, "Put of one alone", p, fmt.Sprintf("-1: 3/20/%d @%d", max(c.lag, 0), base+max(-c.lag, 0)))
		}
	}
}

// TestEnterErrors: which error comes ahead of which.
func TestEnterErrors(t *testing.T) {
	some, full := grown(t, form(7, item(3, 2, 5), item(7, 1, 0)), 100), grown(t, right()[2], 100)
	for _, c := range []struct {
		q     *Q
		id, w int
		lag   int64
		want  api.Errno
	}{
		{some, -1, 1, 0, api.EARG}, {some, mostID + 1, 1, 0, api.EARG}, {some, 1<<32 + 1, 1, 0, api.EARG}, {some, top, 1, 0, api.EARG}, {some, low, 1, 0, api.EARG},
		{some, 1, 0, 0, api.EARG}, {some, 1, 21, 0, api.EARG}, {some, 1, -1, 0, api.EARG}, {some, 1, 1<<32 + 1, 0, api.EARG}, {some, 1, top, 0, api.EARG}, {some, 1, low, 0, api.EARG},
		{some, 1, 1, most + 1, api.EARG}, {some, 1, 1, -most - 1, api.EARG}, {some, 1, 1, top, api.EARG}, {some, 1, 1, low, api.EARG},
		{some, 3, 0, 0, api.EARG}, {some, 3, 1, most + 1, api.EARG}, {some, 7, 1, -most - 1, api.EARG}, {some, 3, 2, 5, api.ESTATE}, {some, 7, 20, most, api.ESTATE},
		{full, 64, 0, 0, api.EARG}, {full, -1, 1, 0, api.EARG}, {full, 64, 1, most + 1, api.EARG}, {full, 0, 21, 0, api.EARG},
		{full, 0, 1, 0, api.ESTATE}, {full, 63, 20, -most, api.ESTATE}, {full, 64, 1, 0, api.EFULL}, {full, mostID, 20, most, api.EFULL}, {full, 65, 1, -most, api.EFULL},
	} {
		why := fmt.Sprint(c.id, c.w, c.lag)
		refused(t, "Enter "+why, c.q, func() (int, api.Errno) { return 0, c.q.Enter(c.id, c.w, c.lag) }, c.want)
		refused(t, "Put "+why, c.q, func() (int, api.Errno) { return 0, c.q.Put(c.id, c.w, c.lag) }, c.want)
	}
	// Whoever was turned away takes no room, and may come when there is some.
	leaves(t, full, 7, 0)
	done(t, full.Enter(64, 20, 0))
	if e := full.Put(7, 1, 0); e != api.EFULL {
		t.Errorf("P13.1: Put of task 65: %d", e)
	}
}

// TestAccepted holds what equals a limit.
func TestAccepted(t *testing.T) {
	for _, enter := range []func(*Q, int, int, int64) api.Errno{(*Q).Enter, (*Q).Put} {
		q := made(t, 0)
		done(t, enter(q, 0, 1, 0))
		done(t, enter(q, mostID, 20, most))
		done(t, enter(q, mostID-1, 1, -most))
		for i := range 61 {
			done(t, enter(q, i+1, 1+i%20, 0))
		}
		if e := enter(q, 64, 1, 0); e != api.EFULL || len(q.Form().L) != 64 {
			t.Errorf("P13.1: task 65: %d", e)
		}
	}
}

func TestLeave(t *testing.T) {
	f := form(3, item(0, 1, -70), item(3, 2, 40), item(8, 3, -2), item(9, 20, -5))
	for _, base := range bases() {
		q := grown(t, f, base)
		for _, id := range []int{-1, 1, 2, 10, low, top, 1<<32 + 3, mostID} {
			refused(t, fmt.Sprint("Leave ", id), q, func() (int64, api.Errno) { return q.Leave(id) }, api.EID)
		}
		for _, c := range []struct {
			id   int
			lag  int64
			then string
			up   int64
		}{
			{9, -5, "3: 0/1/-70 3/2/40 8/3/-2", 0}, {3, 40, "-1: 0/1/-68 8/3/0", 2}, {8, 0, "-1: 0/1/0", 70}, {0, 0, "-1:", 70},
		} {
			leaves(t, q, c.id, c.lag)
			holds(t, "Leave", q, fmt.Sprintf("%s @%d", c.then, base+c.up))
			refused(t, "Leave of one that left", q, func() (int64, api.Errno) { return q.Leave(c.id) }, api.EID)
		}
		// The base stays where it was when the last task left.
		done(t, q.Enter(3, 1, 9))
		holds(t, "Enter after all left", q, fmt.Sprintf("-1: 3/1/9 @%d", base+70))
	}
}

func TestWeigh(t *testing.T) {
	q := grown(t, form(3, item(0, 1, 0), item(3, 2, -7)), 50)
	done(t, q.Weigh(3, 20))
	done(t, q.Weigh(0, 7))
	holds(t, "Weigh", q, "3: 0/7/0 3/20/-7 @50")
	done(t, q.Weigh(3, 1))
	holds(t, "Weigh again", q, "3: 0/7/0 3/1/-7 @50")
	for _, c := range []struct {
		id, w int
		want  api.Errno
	}{
		{1, 1, api.EID}, {1, 0, api.EID}, {-1, 21, api.EID}, {top, 1, api.EID}, {low, low, api.EID}, {1 << 32, 1, api.EID}, {mostID, 1, api.EID},
		{0, 0, api.EARG}, {0, 21, api.EARG}, {3, -1, api.EARG}, {3, low, api.EARG}, {3, top, api.EARG}, {3, 1<<32 + 5, api.EARG},
	} {
		refused(t, fmt.Sprint("Weigh ", c.id, c.w), q, func() (int, api.Errno) { return 0, q.Weigh(c.id, c.w) }, c.want)
	}
	// A task that left and came again has the weight that it came with.
	leaves(t, q, 3, -7)
	done(t, q.Enter(3, 4, 0))
	holds(t, "Enter again", q, "-1: 0/7/0 3/4/0 @50")
	// What a tick moves hangs on the weight that the task has then.
	picks(t, "equal ones", q, 0)
	done(t, q.Weigh(0, 4))
	charges(t, "Weigh", q, 0)
	holds(t, "Weigh and Charge", q, fmt.Sprintf("0: 0/4/%d 3/4/0 @50", -tick/4))
}

// TestPick: of those whose points are at most the average, the one with the
// earliest deadline, which is four ticks of its weight off when it comes.
func TestPick(t *testing.T) {
	for _, c := range []struct {
		f    owed.Form
		want int
	}{
		{form(-1, item(4, 1, 0)), 4}, {form(4, item(4, 20, 0)), 4}, {form(-1, item(0, 1, 9)), 0}, {form(0, item(0, 1, most)), 0},
		// All are at the average: the earliest deadline, then the least ID. Who
		// runs does not count.
		{form(-1, item(1, 1, 0), item(2, 1, 0)), 1}, {form(2, item(1, 1, 0), item(2, 1, 0)), 1}, {form(1, item(1, 1, 0), item(2, 2, 0)), 2}, {form(-1, item(1, 20, 0), item(2, 19, 0)), 1},
		{form(-1, item(0, 7, 0), item(5, 8, 0), item(6, 8, 0), item(mostID, 1, 0)), 5}, {form(-1, item(1, 19, 0), item(mostID, 20, 0)), mostID},
		// One is ahead of the average, however little.
		{form(-1, item(1, 20, -1), item(2, 1, 0)), 2}, {form(-1, item(1, 1, 0), item(2, 20, -1)), 1}, {form(2, item(1, 1, 1), item(2, 20, 0)), 1}, {form(-1, item(1, 1, 1), item(2, 20, 0)), 1},
		{form(-1, item(1, 20, 0), item(2, 1, 1)), 2}, {form(1, item(1, 20, -most), item(2, 1, most)), 2}, {form(-1, item(1, 20, most-1), item(2, 1, most)), 2},
		// One between two others is just at the average, or 1 off.
		{form(-1, item(1, 1, 5), item(2, 1, -5), item(3, 20, 0)), 3}, {form(-1, item(1, 1, 5), item(2, 1, -5), item(3, 20, -1)), 1}, {form(-1, item(1, 1, 5), item(2, 1, -5), item(3, 20, 1)), 3},
		{form(-1, item(1, 1, 5), item(2, 1, -6), item(3, 20, 0)), 3}, {form(-1, item(1, 1, 6), item(2, 1, -5), item(3, 20, 0)), 1}, {form(-1, item(1, 3, 2), item(2, 1, -6), item(3, 20, 0)), 3},
		{form(-1, item(1, 3, 2), item(2, 1, -5), item(3, 20, 0)), 1}, {form(-1, item(1, 1, most), item(2, 1, -most), item(3, 20, 0)), 1}, {form(-1, item(1, 1, 1), item(2, 1, -most), item(3, 20, 0)), 3},
		// The points count by their weights.
		{form(-1, item(1, 1, 0), item(2, 4, -8), item(3, 20, -10)), 2}, {form(-1, item(1, 4, 0), item(2, 20, -3), item(3, 1, -10)), 1}, {form(-1, item(1, 20, 0), item(2, 20, -3), item(3, 1, -10)), 1},
		// One that is less far has a later deadline, an equal one, an earlier one.
		{form(-1, item(1, 1, tick), item(2, 4, 0), item(3, 20, -9*tick)), 2}, {form(-1, item(1, 1, 0), item(2, 2, -2*tick), item(3, 20, -9*tick)), 1}, {form(-1, item(1, 2, -2*tick), item(2, 1, 0), item(3, 20, -9*tick)), 1},
		{form(-1, item(1, 1, 0), item(2, 2, 1-2*tick), item(3, 20, -9*tick)), 2}, {form(-1, item(1, 2, -1-2*tick), item(2, 1, 0), item(3, 20, -9*tick)), 2}, {form(3, item(1, 1, 3*tick+1), item(2, 4, 0), item(3, 20, -9*tick)), 1},
		{form(3, item(1, 1, 3*tick-1), item(2, 4, 0), item(3, 20, -9*tick)), 2}, {form(-1, item(1, 3, 5), item(7, 7, 5-4*(tick/3-tick/7)), item(9, 20, -99*tick)), 1}, {form(-1, item(1, 3, 5), item(7, 7, 6-4*(tick/3-tick/7)), item(9, 20, -99*tick)), 7},
	} {
		for _, base := range bases() {
			q, p := grown(t, c.f, base), grown(t, form(-1, item(100, 1, 0)), base)
			for _, x := range slices.Backward(c.f.L) {
				done(t, p.Put(x.ID, x.W, x.Lag))
			}
			leaves(t, p, 100, 0)
			for range 3 {
				picks(t, owed.Text(c.f), q, c.want)
				holds(t, "Pick", q, fmt.Sprintf("%s @%d", owed.Text(form(c.want, c.f.L...)), base))
				picks(t, "Put of "+owed.Text(c.f), p, c.want)
			}
		}
	}
}

// TestPickAfterCalls: the average moves with who comes, leaves and runs.
func TestPickAfterCalls(t *testing.T) {
	q := grown(t, form(3, item(1, 1, 5), item(2, 1, -5), item(3, 20, 0)), 0)
	picks(t, "Seed", q, 3)
	if !q.Back() {
		t.Errorf("P13.1: Back of one that runs")
	}
	picks(t, "Back", q, 3)
	done(t, q.Enter(4, 1, 1))
	picks(t, "Enter of one that is 1 behind", q, 1)
	leaves(t, q, 4, 1)
	picks(t, "Leave of the one that is 1 behind", q, 3)
	done(t, q.Weigh(1, 2))
	picks(t, "Weigh of one that is behind", q, 1)
	done(t, q.Weigh(2, 2))
	picks(t, "Weigh of one that is ahead", q, 3)
	leaves(t, q, 3, 0)
	picks(t, "Leave of the one that ran", q, 1)
	charges(t, "the one behind", q, 1)
	picks(t, "Charge", q, 2)
	charges(t, "the one that was ahead", q, 2)
	picks(t, "Charge again", q, 1)
}

// waits is a queue in which two tasks of the same weight are far behind a
// third one, so that only their deadlines count; task 1 is a tick behind task
// 2, and runs.
func waits(t *testing.T, w int) *Q {
	t.Helper()
	q := grown(t, form(-1, item(1, w, tick/int64(w)), item(2, w, 0), item(3, 20, -1000*tick)), 77)
	picks(t, "the earlier deadline", q, 1)
	return q
}

// TestDeadline: a deadline stays until it is reached, by just four ticks.
func TestDeadline(t *testing.T) {
	for w := 1; w <= 20; w++ {
		q := waits(t, w)
		if got, want := runs(t, q, 20), [][2]int{{1, 4}, {2, 4}, {1, 4}, {2, 4}, {1, 4}}; !slices.Equal(got, want) {
			t.Errorf("P13.1: deadlines of weight %d: %v, want %v", w, got, want)
		}
		// The same without a Pick between.
		for n := range 4 {
			q := waits(t, w)
			for range n {
				charges(t, "without Pick", q, 1)
			}
			picks(t, "less than four ticks", q, 1)
			for range 4 - n {
				charges(t, "without Pick", q, 1)
			}
			picks(t, "four ticks", q, 2)
		}
	}
}

// TestNewDeadlines: which calls set a deadline anew, and which do not.
func TestNewDeadlines(t *testing.T) {
	for _, c := range []struct {
		why  string
		do   func(q *Q)
		want int
	}{
		{"nothing", func(q *Q) {}, 1},
		{"Pick", func(q *Q) { q.Pick() }, 1},
		{"Back", func(q *Q) { q.Back() }, 1},
		{"Form and Base", func(q *Q) { q.Form(); q.Base() }, 1},
		{"Weigh", func(q *Q) { q.Weigh(1, 3) }, 2},
		{"Weigh to a heavy weight", func(q *Q) { q.Weigh(1, 20) }, 1},
		{"Weigh to the same weight", func(q *Q) { q.Weigh(1, 4) }, 2},
		{"Weigh there and back", func(q *Q) { q.Weigh(1, 20); q.Weigh(1, 4) }, 2},
		{"Weigh of the other one", func(q *Q) { q.Weigh(2, 20) }, 2},
		{"Weigh of the other one, to a light weight", func(q *Q) { q.Weigh(2, 1) }, 1},
		{"Weigh of the one that is far", func(q *Q) { q.Weigh(3, 1) }, 1},
		{"Weigh with a wrong weight", func(q *Q) { q.Weigh(1, 0); q.Weigh(1, 21); q.Weigh(2, -1) }, 1},
		{"Enter and Put of one that is there", func(q *Q) { q.Enter(1, 4, 0); q.Put(1, 4, 0); q.Put(2, 20, 0) }, 1},
		{"Leave of nobody", func(q *Q) { q.Leave(0); q.Leave(4) }, 1},
		{"Leave and Put", func(q *Q) { lag, _ := q.Leave(1); q.Put(1, 4, lag) }, 2},
		{"Leave and Enter", func(q *Q) { lag, _ := q.Leave(1); q.Enter(1, 4, lag) }, 2},
		{"Leave and Put of the other one", func(q *Q) { lag, _ := q.Leave(2); q.Put(2, 4, lag) }, 1},
		{"Leave", func(q *Q) { q.Leave(1) }, 2},
		{"Leave of the other one", func(q *Q) { q.Leave(2) }, 1},
		{"Charge", func(q *Q) { q.Charge() }, 1},
		{"Charge, twice", func(q *Q) { q.Charge(); q.Charge() }, 2},
	} {
		// After two ticks of task 1 its deadline is a tick ahead of the other
		// one's, and with a new one it would be a tick behind.
		q := waits(t, 4)
		charges(t, c.why, q, 1)
		charges(t, c.why, q, 1)
		c.do(q)
		picks(t, c.why, q, c.want)
	}
}

// TestAverage: it is exact, though the points are as far apart as numbers go.
func TestAverage(t *testing.T) {
	far := []int64{-half - most, -half - most + 1, -half, -1, 0, 1, 2, 7 * tick, half, half + most, farthest - 1, farthest}
	end := []int64{math.MaxInt64 - farthest, math.MaxInt64 - 1, math.MaxInt64, math.MaxInt64}
	var lists [][]int64
	for i := range far {
		lists = append(lists, far[:i+1], far[i:], []int64{far[i], far[i]}, []int64{far[0], far[i]})
	}
	lists = append(lists, end, end[1:], end[2:], append(slices.Repeat(far[:1], 31), slices.Repeat(far[11:], 33)...))
	for _, points := range lists {
		for _, step := range []int{0, 1, 7, 19} {
			for first := range 20 {
				var l []one
				for i, x := range points {
					l = append(l, one{w: (first+i*step)%20 + 1, point: x})
				}
				total, sum := mean(l)
				// The divisor is positive: Div rounds down.
				if got, want := average(tasksOf(l)), sum.Div(sum, total).Int64(); got != want {
					t.Fatalf("P13.1: average of %v: %d, want %d", l, got, want)
				}
			}
		}
	}
}

// tasksOf is a list of the plain model as package points tells it.
func tasksOf(l []one) []points.Task {
	var tasks []points.Task
	for _, x := range l {
		tasks = append(tasks, points.Task{ID: x.id, W: x.w, Point: x.point})
	}
	return tasks
}

// TestPickOfNone: whatever was before, without tasks nobody runs.
func TestPickOfNone(t *testing.T) {
	q := made(t, 3)
	for range 3 {
		if id, ok := q.Pick(); id != 0 || ok {
			t.Errorf("P13.1: Pick without tasks: %d, %t", id, ok)
		}
		holds(t, "Pick without tasks", q, "-1: @3")
		refused(t, "Charge without tasks", q, q.Charge, api.ENONE)
		done(t, q.Enter(9, 1, 0))
		picks(t, "one alone", q, 9)
		leaves(t, q, 9, 0)
	}
}

func TestCharge(t *testing.T) {
	for w := 1; w <= 20; w++ {
		for _, base := range bases() {
			step := tick / int64(w)
			q := grown(t, form(2, item(1, 1, 0), item(2, w, 5)), base)
			for n := int64(1); n <= 5; n++ {
				charges(t, "beside another one", q, 2)
				// Not who is least far, but Cur moves; the other one holds the base.
				holds(t, "Charge", q, fmt.Sprintf("2: 1/1/0 2/%d/%d @%d", w, 5-n*step, base))
			}
			alone := grown(t, form(7, item(7, w, 5)), base)
			charges(t, "alone", alone, 7)
			holds(t, "Charge of one alone", alone, fmt.Sprintf("7: 7/%d/0 @%d", w, base+step-5))
		}
	}
	for _, f := range []owed.Form{form(-1), form(-1, item(0, 1, 0)), form(-1, item(0, 1, 0), item(1, 1, 5))} {
		q := grown(t, f, 5)
		refused(t, "Charge of nobody", q, q.Charge, api.ENONE)
	}
}

// far is a queue whose base is MaxLag short of MaxKey: one task after another
// has come ahead of the base and left.
func far(t *testing.T) *Q {
	t.Helper()
	q := made(t, half)
	for range (farthest-half)/most - 1 {
		done(t, q.Put(0, 1, -most))
		leaves(t, q, 0, 0)
	}
	holds(t, "far", q, fmt.Sprint("-1: @", farthest-most))
	return q
}

func TestChargeOver(t *testing.T) {
	for w := 1; w <= 20; w++ {
		step := tick / int64(w)
		// Up to MaxKey, and not beyond.
		q := far(t)
		done(t, q.Put(4, w, step-most))
		picks(t, "far", q, 4)
		charges(t, "up to MaxKey", q, 4)
		holds(t, "Charge up to MaxKey", q, fmt.Sprintf("4: 4/%d/0 @%d", w, farthest))
		refused(t, "Charge at MaxKey", q, q.Charge, api.EOVER)
		refused(t, "Charge at MaxKey, again", q, q.Charge, api.EOVER)
		// One short of a whole step, while another one has room.
		p := far(t)
		done(t, p.Put(5, w, 0))
		done(t, p.Put(4, w, step-most-1))
		leaves(t, p, 5, 0)
		picks(t, "far", p, 4)
		refused(t, "Charge beyond MaxKey", p, p.Charge, api.EOVER)
		done(t, p.Enter(5, w, 1))
		refused(t, "Charge beyond MaxKey, beside one that is 1 behind", p, p.Charge, api.EOVER)
		picks(t, "beside one that is 1 behind", p, 5)
		charges(t, "just up to MaxKey", p, 5)
		refused(t, "Charge at MaxKey", p, p.Charge, api.EOVER)
	}
}

// TestOver goes on beyond all bounds: every call ends, and the base never
// decreases.
func TestOver(t *testing.T) {
	for _, enter := range []func(*Q, int, int, int64) api.Errno{(*Q).Enter, (*Q).Put} {
		q := made(t, half)
		for n := range 20000 {
			was := q.Base()
			done(t, enter(q, n%3, 1+n%20, -most))
			picks(t, "one alone", q, n%3)
			q.Charge()
			done(t, q.Weigh(n%3, 1))
			if _, e := q.Leave(n % 3); e != api.OK || q.Base() < was || len(q.Form().L) != 0 {
				t.Fatalf("P13.1: call %d: %d, base %d after %d", n, e, q.Base(), was)
			}
		}
	}
}

// TestEndOfDeadlines: beyond all bounds too, a deadline does not come before
// the point that it is set from.
func TestEndOfDeadlines(t *testing.T) {
	q := made(t, half)
	for range 8193 {
		done(t, q.Put(9, 1, -most))
		leaves(t, q, 9, 0)
	}
	holds(t, "the end", q, fmt.Sprint("-1: @", math.MaxInt64))
	done(t, q.Put(1, 20, tick))
	done(t, q.Put(2, 1, tick+1))
	done(t, q.Put(3, 20, 0))
	picks(t, "the end", q, 1)
	done(t, q.Weigh(1, 1))
	picks(t, "the least of equal deadlines", q, 1)
	refused(t, "Charge at the end", q, q.Charge, api.EOVER)
	leaves(t, q, 1, tick)
	picks(t, "after Leave at the end", q, 2)
}

func TestBack(t *testing.T) {
	q := made(t, 0)
	if q.Back() {
		t.Errorf("P13.1: Back without tasks")
	}
	done(t, q.Enter(0, 1, 0))
	if q.Back() {
		t.Errorf("P13.1: Back while nobody runs")
	}
	picks(t, "one alone", q, 0)
	if !q.Back() || q.Back() {
		t.Errorf("P13.1: Back, twice")
	}
	holds(t, "Back", q, "-1: 0/1/0 @0")
	refused(t, "Charge after Back", q, q.Charge, api.ENONE)
	picks(t, "after Back", q, 0)
	leaves(t, q, 0, 0)
	if q.Back() {
		t.Errorf("P13.1: Back after Cur left")
	}
	if p := grown(t, form(5, item(5, 1, 0)), 0); !p.Back() || p.Form().Cur != -1 {
		t.Errorf("P13.1: Back of a seeded queue")
	}
}

// TestBase: the base follows after each of the calls that the chapter names.
func TestBase(t *testing.T) {
	q := grown(t, form(1, item(1, 1, 30), item(2, 1, -10), item(3, 1, -20)), 1000)
	charges(t, "Seed", q, 1)
	holds(t, "Charge", q, fmt.Sprintf("1: 1/1/%d 2/1/0 3/1/-10 @1010", 40-tick))
	leaves(t, q, 2, 0)
	holds(t, "Leave", q, fmt.Sprintf("1: 1/1/%d 3/1/0 @1020", 50-tick))
	done(t, q.Enter(2, 1, -1))
	done(t, q.Put(4, 1, 5))
	leaves(t, q, 3, 0)
	holds(t, "Leave while one is behind", q, fmt.Sprintf("1: 1/1/%d 2/1/-1 4/1/5 @1020", 50-tick))
	leaves(t, q, 4, 5)
	holds(t, "Leave of the one behind", q, fmt.Sprintf("1: 1/1/%d 2/1/0 @1021", 51-tick))
	leaves(t, q, 2, 0)
	holds(t, "Leave of all but one", q, fmt.Sprintf("1: 1/1/0 @%d", 970+tick))
}

// runs are those who run in n ticks, and for how many in a row.
func runs(t *testing.T, q *Q, n int) [][2]int {
	t.Helper()
	var l [][2]int
	for range n {
		id, ok := q.Pick()
		ran, e := q.Charge()
		if !ok || e != api.OK || ran != id {
			t.Fatalf("P13.1: Pick and Charge: %d, %t, %d, %d", id, ok, ran, e)
		}
		if len(l) == 0 || l[len(l)-1][0] != id {
			l = append(l, [2]int{id, 0})
		}
		l[len(l)-1][1]++
	}
	return l
}

// TestExample: two tasks of weight 1 run alternately; the others are the
// chapter's rule, gone through by hand.
func TestExample(t *testing.T) {
	for _, c := range []struct {
		weights []int
		want    []int
	}{
		{[]int{1, 1}, []int{0, 1, 0, 1, 0, 1, 0, 1, 0, 1}},
		{[]int{20, 20}, []int{0, 1, 0, 1, 0, 1, 0, 1, 0, 1}},
		{[]int{1, 1, 1}, []int{0, 1, 2, 0, 1, 2, 0, 1, 2}},
		{[]int{1, 2}, []int{1, 0, 1, 1, 0, 1, 0, 1, 1, 0, 1, 1}},
		{[]int{4, 3}, []int{0, 1, 0, 1, 0, 1, 0, 1, 0, 0, 1, 0, 1, 0}},
		{[]int{7}, []int{0, 0, 0, 0, 0, 0, 0, 0, 0}},
	} {
		for _, base := range bases() {
			q := made(t, base)
			for id, w := range c.weights {
				done(t, q.Enter(id, w, 0))
			}
			var got []int
			for range c.want {
				got = append(got, runs(t, q, 1)[0][0])
			}
			if !slices.Equal(got, c.want) {
				t.Errorf("P13.1: weights %v from base %d: %v, want %v", c.weights, base, got, c.want)
			}
		}
	}
}

// TestShares: tasks that all came with Lag 0 stay within five ticks of weight 1
// of each other, so each runs its share up to five ticks per unit of weight.
func TestShares(t *testing.T) {
	for _, ws := range [][]int{{1}, {1, 1}, {20, 1}, {1, 20, 7, 3, 3}, {13, 17, 19, 11, 1, 2}} {
		q := made(t, -9)
		total, served := 0, make([]int64, len(ws))
		for id, w := range ws {
			done(t, q.Enter(id, w, 0))
			total += w
		}
		for n := int64(1); n <= 900; n++ {
			served[runs(t, q, 1)[0][0]]++
			for id, w := range ws {
				if off := weight.Off(w, total, n, served[id]); max(off, -off) > int64(5*total*w) {
					t.Fatalf("P13.1: after %d ticks of the weights %v: task %d ran %d", n, ws, id, served[id])
				}
			}
			for _, x := range q.Form().L {
				if x.Lag > 0 || x.Lag < -5*tick {
					t.Fatalf("P13.1: after %d ticks of the weights %v: %s", n, ws, state(q))
				}
			}
		}
	}
}

// chance answers numbers without order, the same ones at every run.
type chance uint64

func (c *chance) below(n int) int {
	*c = *c*6364136223846793005 + 1442695040888963407
	return int(uint64(*c) >> 33 % uint64(n))
}

// lags are Lags of all sizes, and some that are too great.
func lags() []int64 {
	return []int64{0, 0, 0, 1, -1, tick, -tick, tick / 7, -tick / 3, 4 * tick, -4 * tick, -100 * tick, bonus, bonus + 1, bonus - 1, -bonus, -bonus - 1, 1 - bonus, most, -most, 1 << 32, most + 1, -most - 1}
}

// play makes a call that is chosen by chance, of all that are given, and tells
// what each of them returned.
func play(c *chance, ids int, on ...queue) []string {
	op, id, w, lag := c.below(20), c.below(ids+2)-1, c.below(22), lags()[c.below(len(lags()))]
	told := make([]string, len(on))
	for i, q := range on {
		switch op {
		case 0, 1:
			told[i] = fmt.Sprint("Enter ", id, w, lag, ": ", q.Enter(id, w, lag))
		case 2:
			told[i] = fmt.Sprint("Put ", id, w, lag, ": ", q.Put(id, w, lag))
		case 3, 4:
			was, e := q.Leave(id)
			told[i] = fmt.Sprint("Leave ", id, ": ", was, e)
		case 5:
			told[i] = fmt.Sprint("Weigh ", id, w, ": ", q.Weigh(id, w))
		case 6:
			told[i] = fmt.Sprint("Back: ", q.Back())
		case 7, 8, 9, 10, 11, 12:
			who, ok := q.Pick()
			told[i] = fmt.Sprint("Pick: ", who, ok)
		default:
			who, e := q.Charge()
			told[i] = fmt.Sprint("Charge: ", who, e)
		}
	}
	return told
}

// TestPlay holds queues against plain lists, call by call.
func TestPlay(t *testing.T) {
	for n, ids := range []int{1, 2, 3, 5, 10, 40, 80, 100} {
		c := chance(n)
		for _, base := range bases() {
			for _, f := range right() {
				q, m := grown(t, f, base), seeded(f, base)
				for i := range 200 {
					told := play(&c, ids, q, m)
					if told[0] != told[1] || state(q) != state(m) {
						t.Fatalf("P13.1: %d IDs, base %d, call %d: %s, want %s; then %s, want %s", ids, base, i, told[0], told[1], state(q), state(m))
					}
				}
			}
		}
	}
}

// TestRuns lets the tasks of many forms run, up to many deadlines.
func TestRuns(t *testing.T) {
	for n, f := range right() {
		c := chance(n)
		q, m := grown(t, f, 5), seeded(f, 5)
		for i := range 2000 {
			if i%50 == 0 {
				play(&c, 6, q, m)
			}
			id, ok := q.Pick()
			want, some := m.Pick()
			if id != want || ok != some {
				t.Fatalf("P13.1: from %s, tick %d: Pick %d, %t, want %d, %t", owed.Text(f), i, id, ok, want, some)
			}
			id, e := q.Charge()
			if want, g := m.Charge(); id != want || e != g || state(q) != state(m) {
				t.Fatalf("P13.1: from %s, tick %d: Charge %d, %d, want %d, %d; then %s, want %s", owed.Text(f), i, id, e, want, g, state(q), state(m))
			}
		}
	}
}

// TestBasesAlike: queues that differ only in their base behave equally, for
// fewer than 1,000 calls.
func TestBasesAlike(t *testing.T) {
	for n, f := range right() {
		var on []queue
		for _, base := range bases() {
			on = append(on, grown(t, f, base))
		}
		c := chance(n)
		for i := range 999 {
			told := play(&c, 6, on...)
			for k, q := range on {
				if told[k] != told[0] || !owed.Same(q.Form(), on[0].Form()) || q.Base()-bases()[k] != on[0].Base()-bases()[0] {
					t.Fatalf("P13.2: of %s, call %d: base %d: %s, want %s", owed.Text(f), i, bases()[k], told[k], told[0])
				}
			}
		}
	}
}

// TestFarBasesAlike: the same where each call raises the base as far as a call
// can.
func TestFarBasesAlike(t *testing.T) {
	on := []*Q{made(t, 0), made(t, half), made(t, -half)}
	for i := range 333 {
		for _, q := range on {
			done(t, q.Put(i, 1, -most+int64(i%3)))
			picks(t, "one alone", q, i)
			if text := owed.Text(q.Form()); text != fmt.Sprintf("%d: %d/1/0", i, i) {
				t.Fatalf("P13.2: Put %d: %s", i, text)
			}
			leaves(t, q, i, 0)
		}
	}
	if up := on[0].Base(); on[1].Base()-half != up || on[2].Base()+half != up {
		t.Errorf("P13.2: bases %d, %d, %d", up, on[1].Base(), on[2].Base())
	}
}

// TestSeedsAlike: queues that are seeded with the same form behave equally,
// whatever the one went through that it comes from.
func TestSeedsAlike(t *testing.T) {
	for n, f := range right() {
		c := chance(100 + n)
		old := grown(t, f, 12)
		for range 10 {
			for range 40 {
				play(&c, 8, old)
			}
			form := old.Form()
			if !owed.Good(form) {
				t.Fatalf("P13.2: not valid: %s", owed.Text(form))
			}
			a, b, m := grown(t, form, 12), grown(t, form, -half), seeded(form, 12)
			for i := range 60 {
				told := play(&c, 8, a, b, m)
				if told[0] != told[1] || told[0] != told[2] || !owed.Same(a.Form(), b.Form()) || !owed.Same(a.Form(), m.Form()) {
					t.Fatalf("P13.2: from %s, call %d: %v", owed.Text(form), i, told)
				}
			}
		}
	}
}

// TestSeedsDeadlines: a queue that is seeded with the form of another one is
// owed the same, and has deadlines of its own.
func TestSeedsDeadlines(t *testing.T) {
	q := waits(t, 4)
	charges(t, "before Seed", q, 1)
	charges(t, "before Seed", q, 1)
	p := grown(t, q.Form(), 77)
	if !owed.Same(p.Form(), q.Form()) {
		t.Errorf("P13.2: Seed: %s, want %s", state(p), state(q))
	}
	picks(t, "the deadline that was", q, 1)
	picks(t, "the deadline that Seed sets", p, 2)
}

// TestOwnMemory: forms that go in and come out share nothing with the queue
// nor with each other.
func TestOwnMemory(t *testing.T) {
	room := []owed.Item{item(1, 2, 0), item(3, 1, -5), item(4, 4, 4)}
	was := slices.Clone(room)
	q := grown(t, owed.Form{Cur: 3, L: room[:2]}, 7)
	a, b := q.Form(), q.Form()
	for i := range a.L[:cap(a.L)] {
		a.L[:cap(a.L)][i] = item(9, 9, 9)
	}
	if !owed.Same(b, form(3, was[:2]...)) || slices.Contains(b.L[:cap(b.L)], item(9, 9, 9)) {
		t.Errorf("R4: two Forms share memory: %s", owed.Text(b))
	}
	if !slices.Equal(room, was) {
		t.Errorf("R4: what was handed in: %v", room)
	}
	room[0], room[1], room[2] = item(8, 8, 8), item(8, 8, 8), item(8, 8, 8)
	holds(t, "after a change of the lists", q, "3: 1/2/0 3/1/-5 @7")
	q.Charge()
	if !owed.Same(b, form(3, was[:2]...)) {
		t.Errorf("R4: a Form changes with the queue: %s", owed.Text(b))
	}
}

// TestApart: queues have nothing to do with each other.
func TestApart(t *testing.T) {
	f := form(1, item(1, 1, 0))
	q, p, r := grown(t, f, 0), grown(t, f, 0), made(t, 0)
	charges(t, "one alone", q, 1)
	done(t, q.Weigh(1, 5))
	done(t, q.Enter(2, 1, 0))
	q.Back()
	holds(t, "a queue beside another one", p, "1: 1/1/0 @0")
	holds(t, "an empty queue beside others", r, "-1: @0")
}
