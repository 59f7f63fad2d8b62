package core

import (
	"fmt"
	"math"
	"slices"
	"testing"

	"stadholder/api"
	"stadholder/owed"
	"stadholder/policy"
	"stadholder/weight"
)

const (
	top      = math.MaxInt
	low      = math.MinInt
	most     = int64(1) << 50 // the greatest Lag
	half     = int64(1) << 60 // the greatest base of a new queue
	farthest = int64(1) << 61 // the greatest point that a tick leads to
	mostID   = 1 << 30
	tick     = int64(232792560) // of a task with weight 1
	bonus    = 3 * tick
)

// tags are the three that are valid, in the order of their policies.
func tags() []int { return []int{0, 1, 2} }

func wrongTags() []int { return []int{-1, 3, 4, 1 << 32, 1<<32 + 1, 1 << 8, top, low, low + 2} }

func bases() []int64 { return []int64{0, 1, -77, 1 << 32, half, -half} }

func wrongBases() []int64 { return []int64{half + 1, -half - 1, farthest, -farthest, top, low} }

func form(cur int, l ...owed.Item) owed.Form { return owed.Form{Cur: cur, L: l} }

func item(id, w int, lag int64) owed.Item { return owed.Item{ID: id, W: w, Lag: lag} }

// right are forms that a core is seeded with.
func right() []owed.Form {
	full := form(63)
	for i := range 64 {
		full.L = append(full.L, item(i, 1+i%20, int64(i%7)*-tick))
	}
	return []owed.Form{form(-1), {Cur: -1, L: []owed.Item{}}, full,
		form(-1, item(0, 1, 0)), form(0, item(0, 20, most)), form(mostID, item(1, 2, 0), item(mostID, 7, -most)), form(-1, item(1, 1, -1), item(2, 1, 1)),
		form(3, item(1, 2, 0), item(3, 1, -5)), form(3, item(1, 1, 2*tick), item(2, 2, tick), item(3, 4, -100*tick))}
}

// wrong are forms that are not valid, each for a reason of its own.
func wrong() []owed.Form {
	many := form(-1)
	for i := range 65 {
		many.L = append(many.L, item(i, 1, 0))
	}
	return []owed.Form{many, form(0), form(-2), form(2, item(1, 1, 0)), form(-1, item(-1, 1, 0)), form(-1, item(mostID+1, 1, 0)),
		form(-1, item(1, 0, 0)), form(-1, item(1, 21, 0)), form(-1, item(1, 1, most+1)), form(1, item(1, 1, -1)), form(-1, item(2, 1, 0), item(1, 1, 0))}
}

// fresh is a new core, where the tag and the base are accepted.
func fresh(t *testing.T, tag int, base int64) *Core {
	t.Helper()
	c, e := New(tag, base)
	if e != api.OK || c == nil {
		t.Fatalf("P15.1: New(%d, %d): %d", tag, base, e)
	}
	return c
}

// seeded is a core seeded with a form, where all is accepted.
func seeded(t *testing.T, tag int, f owed.Form, base int64) *Core {
	t.Helper()
	c, e := Seed(tag, f, base)
	if e != api.OK || c == nil {
		t.Fatalf("P15.1: Seed(%d, %s, %d): %d", tag, owed.Text(f), base, e)
	}
	return c
}

// queue is a queue of package policy seeded with a form.
func queue(t *testing.T, tag int, f owed.Form, base int64) *policy.Q {
	t.Helper()
	q, e := policy.Seed(tag, f, base)
	if e != api.OK {
		t.Fatalf("policy.Seed(%d, %s, %d): %d", tag, owed.Text(f), base, e)
	}
	return q
}

// done is for a call that is to be accepted.
func done(t *testing.T, e api.Errno) {
	t.Helper()
	if e != api.OK {
		t.Fatalf("P15.1: error %d of a call that is to be accepted", e)
	}
}

// state is all that a core tells of itself, with Served of some IDs.
func state(c *Core, ids ...int) string {
	s := fmt.Sprintf("tag %d, %s, load %d, idle %d, age %d, served", c.Tag(), owed.Text(c.Form()), c.Load(), c.Idle(), c.Age())
	for _, id := range ids {
		s += fmt.Sprint(" ", c.Served(id))
	}
	return s
}

// holds tells when a core is not in a state.
func holds(t *testing.T, why string, c *Core, want string, ids ...int) {
	t.Helper()
	if got := state(c, ids...); got != want {
		t.Errorf("P15.1: %s: %s, want %s", why, got, want)
	}
}

// refused tells when a call does not return an error and zero, or leaves a
// trace.
func refused[N int | int64](t *testing.T, why string, c *Core, call func() (N, api.Errno), want api.Errno) {
	t.Helper()
	ids := []int{-1, 0, 1, 2, 3, 4, 5, 7, 64}
	was := state(c, ids...)
	if n, e := call(); n != 0 || e != want {
		t.Errorf("P15.1: %s, tag %d: %d, error %d, want 0 and error %d", why, c.Tag(), n, e, want)
	}
	if is := state(c, ids...); is != was {
		t.Errorf("R3: after error %d of %s: %s, want %s", want, why, is, was)
	}
}

// notChanged tells when a queue is not refused.
func notChanged(t *testing.T, why string, c *Core, q *policy.Q, want api.Errno) {
	t.Helper()
	refused(t, "Change: "+why, c, func() (int, api.Errno) { return 0, c.Change(q) }, want)
}

// ran is a Run that is to return a task, or -1.
func ran(t *testing.T, c *Core, want int) {
	t.Helper()
	if id, e := c.Run(); id != want || e != api.OK {
		t.Errorf("P15.1: Run, tag %d: %d, %d, want %d, OK", c.Tag(), id, e, want)
	}
}

func TestNew(t *testing.T) {
	for _, tag := range tags() {
		for _, base := range bases() {
			holds(t, fmt.Sprint("New from ", base), fresh(t, tag, base), fmt.Sprintf("tag %d, -1:, load 0, idle 0, age 0, served 0 0 0", tag), -1, 0, top)
		}
		for _, base := range wrongBases() {
			notNew(t, tag, base)
		}
	}
	for _, tag := range wrongTags() {
		for _, base := range append(bases(), wrongBases()...) {
			notNew(t, tag, base)
		}
	}
}

func notNew(t *testing.T, tag int, base int64) {
	t.Helper()
	if c, e := New(tag, base); c != nil || e != api.EARG {
		t.Errorf("P15.1: New(%d, %d): %v, %d, want nil, EARG", tag, base, c, e)
	}
}

func TestSeed(t *testing.T) {
	for _, tag := range tags() {
		for _, f := range right() {
			load := 0
			for _, x := range f.L {
				load += x.W
			}
			for _, base := range bases() {
				want := fmt.Sprintf("tag %d, %s, load %d, idle 0, age 0, served 0 0 0 0", tag, owed.Text(f), load)
				holds(t, fmt.Sprint("Seed from ", base), seeded(t, tag, f, base), want, 0, 1, 3, mostID)
			}
			for _, base := range wrongBases() {
				notSeeded(t, tag, f, base)
			}
		}
		for _, f := range wrong() {
			for _, base := range append(bases(), wrongBases()...) {
				notSeeded(t, tag, f, base)
			}
		}
	}
	for _, tag := range wrongTags() {
		for _, f := range append(right(), wrong()...) {
			notSeeded(t, tag, f, 0)
		}
	}
}

func notSeeded(t *testing.T, tag int, f owed.Form, base int64) {
	t.Helper()
	if c, e := Seed(tag, f, base); c != nil || e != api.EARG {
		t.Errorf("P15.1: Seed(%d, %s, %d): %v, %d, want nil, EARG", tag, owed.Text(f), base, c, e)
	}
}

// TestByHand goes through the life of a core, from the chapter's example on,
// for the policies that do the same here.
func TestByHand(t *testing.T) {
	for _, tag := range []int{0, 2} {
		c, ids := fresh(t, tag, 0), []int{1, 2, -1}
		is := func(why, form string, rest string) {
			t.Helper()
			holds(t, why, c, fmt.Sprintf("tag %d, %s, %s", tag, form, rest), ids...)
		}
		ran(t, c, -1)
		is("Run of nobody", "-1:", "load 0, idle 1, age 1, served 0 0 0")
		ran(t, c, -1)
		is("Run of nobody again", "-1:", "load 0, idle 2, age 2, served 0 0 0")
		done(t, c.Enter(1, 1, 0, false))
		is("Enter", "-1: 1/1/0", "load 1, idle 2, age 3, served 0 0 0")
		done(t, c.Enter(2, 4, tick, true))
		is("Enter, exact", fmt.Sprint("-1: 1/1/0 2/4/", tick), "load 5, idle 2, age 4, served 0 0 0")
		for _, id := range []int{2, 2, 2, 2} {
			ran(t, c, id)
		}
		is("four ticks", "2: 1/1/0 2/4/0", "load 5, idle 2, age 8, served 0 4 0")
		done(t, c.Weigh(2, 20))
		is("Weigh", "2: 1/1/0 2/20/0", "load 21, idle 2, age 9, served 0 4 0")
		done(t, c.Weigh(2, 20))
		is("Weigh as it is", "2: 1/1/0 2/20/0", "load 21, idle 2, age 10, served 0 4 0")
		if lag, e := c.Leave(2); lag != 0 || e != api.OK {
			t.Errorf("P15.1: Leave, tag %d: %d, %d", tag, lag, e)
		}
		is("Leave", "-1: 1/1/0", "load 1, idle 2, age 11, served 0 4 0")
		ran(t, c, 1)
		is("a tick of one alone", "1: 1/1/0", "load 1, idle 2, age 12, served 1 4 0")
		done(t, c.Enter(2, 5, -7, true))
		ran(t, c, 1)
		is("one that comes back", fmt.Sprintf("1: 1/1/%d 2/5/0", 7-tick), "load 6, idle 2, age 14, served 2 4 0")
		if lag, e := c.Leave(1); lag != 7-tick || e != api.OK {
			t.Errorf("P15.1: Leave of one ahead, tag %d: %d, %d", tag, lag, e)
		}
		ran(t, c, 2)
		c.Leave(2)
		ran(t, c, -1)
		is("all are gone", "-1:", "load 0, idle 3, age 18, served 2 5 0")
	}
}

// TestEnter: exact means Put, and otherwise the policy clamps.
func TestEnter(t *testing.T) {
	for _, x := range []struct {
		lag  int64
		want [3]int64
	}{
		{0, [3]int64{}}, {5, [3]int64{0, 5, 5}}, {-5, [3]int64{-5, -5, -5}}, {bonus, [3]int64{0, bonus, bonus}}, {bonus + 1, [3]int64{0, bonus, bonus}},
		{-bonus - 1, [3]int64{-bonus - 1, -bonus - 1, -bonus}}, {most, [3]int64{0, bonus, bonus}}, {-most, [3]int64{-most, -most, -bonus}},
	} {
		for _, tag := range tags() {
			// One with Lag 0 keeps the base where it is.
			c := seeded(t, tag, form(5, item(5, 1, 0)), 77)
			done(t, c.Enter(3, 20, x.lag, false))
			done(t, c.Enter(4, 20, x.lag, true))
			want := fmt.Sprintf("tag %d, 5: 3/20/%d 4/20/%d 5/1/0, load 41, idle 0, age 2, served", tag, x.want[tag], x.lag)
			holds(t, fmt.Sprint("Enter with Lag ", x.lag), c, want)
		}
	}
}

// TestErrors: those of the queue, the first one that applies, and no trace of
// the call.
func TestErrors(t *testing.T) {
	for _, tag := range tags() {
		c, full := seeded(t, tag, form(7, item(3, 2, 5), item(7, 1, 0)), 100), seeded(t, tag, right()[2], 100)
		c.Run()
		for _, x := range []struct {
			c     *Core
			id, w int
			lag   int64
			want  api.Errno
		}{
			{c, -1, 1, 0, api.EARG}, {c, mostID + 1, 1, 0, api.EARG}, {c, 1, 0, 0, api.EARG}, {c, 1, 21, 0, api.EARG}, {c, 3, 1, most + 1, api.EARG},
			{c, 3, 1, low, api.EARG}, {c, 3, 2, 5, api.ESTATE}, {full, 64, 0, 0, api.EARG}, {full, 0, 1, 0, api.ESTATE}, {full, 64, 1, 0, api.EFULL},
		} {
			for _, exact := range []bool{false, true} {
				why := fmt.Sprint("Enter ", x.id, x.w, x.lag, exact)
				refused(t, why, x.c, func() (int, api.Errno) { return 0, x.c.Enter(x.id, x.w, x.lag, exact) }, x.want)
			}
		}
		refused(t, "Weigh of nobody", c, func() (int, api.Errno) { return 0, c.Weigh(4, 0) }, api.EID)
		refused(t, "Weigh to nothing", c, func() (int, api.Errno) { return 0, c.Weigh(3, 0) }, api.EARG)
		refused(t, "Weigh beyond MaxWeight", c, func() (int, api.Errno) { return 0, c.Weigh(3, 21) }, api.EARG)
		refused(t, "Leave of nobody", c, func() (int64, api.Errno) { return c.Leave(4) }, api.EID)
		for _, id := range []int{-1, 4, mostID, top, low} {
			if n := c.Served(id); n != 0 {
				t.Errorf("P15.1: Served(%d), tag %d: %d", id, tag, n)
			}
		}
	}
}

// TestRunOver: a tick beyond MaxKey is none.
func TestRunOver(t *testing.T) {
	for _, tag := range tags() {
		c := fresh(t, tag, half)
		for range 1024 {
			done(t, c.Enter(9, 1, -most, true))
			c.Leave(9)
		}
		done(t, c.Enter(1, 20, tick/20, true))
		ran(t, c, 1)
		refused(t, "Run at MaxKey", c, c.Run, api.EOVER)
		refused(t, "Run at MaxKey again", c, c.Run, api.EOVER)
		holds(t, "at MaxKey", c, fmt.Sprintf("tag %d, 1: 1/20/0, load 20, idle 0, age 2050, served 1 0", tag), 1, 0)
	}
}

// TestChange: from each policy to each, with no change but that of the policy.
func TestChange(t *testing.T) {
	for _, tag := range tags() {
		for _, other := range tags() {
			for _, f := range right() {
				for _, base := range bases() {
					c := seeded(t, tag, f, base)
					for range 3 {
						c.Run()
					}
					was, age, idle := c.Form(), c.Age(), c.Idle()
					served := []int64{c.Served(0), c.Served(1), c.Served(2), c.Served(3)}
					done(t, c.Change(queue(t, other, was, -base/2)))
					if c.Tag() != other || !owed.Same(c.Form(), was) || c.Age() != age || c.Idle() != idle {
						t.Errorf("P15.1: Change from %d to %d: %s, want %s, age %d, idle %d", tag, other, state(c), owed.Text(was), age, idle)
					}
					if is := []int64{c.Served(0), c.Served(1), c.Served(2), c.Served(3)}; !slices.Equal(is, served) {
						t.Errorf("P15.1: Served after Change from %d to %d: %v, want %v", tag, other, is, served)
					}
				}
			}
		}
	}
}

// TestNotChanged: queues that are not as the core, each by one thing alone.
func TestNotChanged(t *testing.T) {
	f := form(3, item(1, 2, 0), item(3, 1, -5))
	for _, tag := range tags() {
		for _, other := range tags() {
			c := seeded(t, tag, f, 9)
			notChanged(t, "no queue", c, nil, api.EARG)
			for _, g := range []owed.Form{
				form(-1, f.L...), form(1, f.L...), form(3, item(1, 2, 1), item(3, 1, -5)), form(3, item(1, 2, 0), item(3, 1, -6)), form(3, item(1, 3, 0), item(3, 1, -5)),
				form(3, item(1, 2, 0), item(3, 2, -5)), form(3, item(2, 2, 0), item(3, 1, -5)), form(3, item(1, 2, 0), item(2, 1, 0), item(3, 1, -5)), form(-1), form(-1, f.L[0]),
			} {
				q := queue(t, other, g, 9)
				notChanged(t, owed.Text(g), c, q, api.ESTATE)
				if !owed.Same(q.Form(), g) || q.Tag() != other {
					t.Errorf("R3: a queue that was refused: %s, want %s", owed.Text(q.Form()), owed.Text(g))
				}
			}
			e := fresh(t, tag, 9)
			notChanged(t, "no queue for none", e, nil, api.EARG)
			notChanged(t, "a queue for none", e, queue(t, other, f, 9), api.ESTATE)
			done(t, e.Change(queue(t, other, form(-1), 10)))
			holds(t, "an empty queue for none", e, fmt.Sprintf("tag %d, -1:, load 0, idle 0, age 0, served", other))
		}
	}
}

// TestChangeTakes: the queue is taken as it is, with the deadlines that it has,
// and not made anew of its form.
func TestChangeTakes(t *testing.T) {
	apart := false
	for _, tag := range tags() {
		q, twin := queue(t, 2, form(-1), 0), queue(t, 2, form(-1), 0)
		for _, x := range []*policy.Q{q, twin} {
			for id, w := range []int{1, 3, 7, 2} {
				done(t, x.Enter(id, w, 0))
			}
			for range 30 {
				x.Run()
			}
		}
		anew := queue(t, 2, q.Form(), 0)
		c := seeded(t, tag, q.Form(), 5)
		done(t, c.Change(q))
		for range 40 {
			want, e := twin.Run()
			done(t, e)
			ran(t, c, want)
			id, _ := anew.Run()
			apart = apart || id != want
		}
	}
	if !apart {
		t.Error("the queue made anew does the same: this test tells nothing")
	}
}

// chance answers numbers without order, the same ones at every run.
type chance uint64

func (c *chance) below(n int) int {
	*c = *c*6364136223846793005 + 1442695040888963407
	return int(uint64(*c) >> 33 % uint64(n))
}

// model is a core as the chapter tells it: a queue of package policy and plain
// counters.
type model struct {
	q         *policy.Q
	served    map[int]int64
	idle, age int64
}

func (m *model) aged(e api.Errno) api.Errno {
	if e == api.OK {
		m.age++
	}
	return e
}

func (m *model) run() (int, api.Errno) {
	if len(m.q.Form().L) == 0 {
		m.idle, m.age = m.idle+1, m.age+1
		return -1, api.OK
	}
	id, e := m.q.Run()
	if e == api.OK {
		m.served[id]++
	}
	return id, m.aged(e)
}

func (m *model) state(ids ...int) string {
	load := 0
	for _, x := range m.q.Form().L {
		load += x.W
	}
	s := fmt.Sprintf("tag %d, %s, load %d, idle %d, age %d, served", m.q.Tag(), owed.Text(m.q.Form()), load, m.idle, m.age)
	for _, id := range ids {
		s += fmt.Sprint(" ", m.served[id])
	}
	return s
}

// lags are Lags of all sizes, and some that are too great.
func lags() []int64 {
	return []int64{0, 0, 0, 1, -1, tick, -tick, tick / 7, -tick / 3, 4 * tick, -4 * tick, bonus + 1, -bonus - 1, most, -most, most + 1, -most - 1}
}

// play makes a call that is chosen by chance, of a core and of its model, and
// tells what each of them returned.
func play(t *testing.T, r *chance, ids int, c *Core, m *model) (string, string) {
	t.Helper()
	id, w, lag := r.below(ids+2)-1, r.below(22), lags()[r.below(len(lags()))]
	switch r.below(12) {
	case 0:
		return fmt.Sprint("Enter: ", c.Enter(id, w, lag, false)), fmt.Sprint("Enter: ", m.aged(m.q.Enter(id, w, lag)))
	case 1:
		return fmt.Sprint("Enter, exact: ", c.Enter(id, w, lag, true)), fmt.Sprint("Enter, exact: ", m.aged(m.q.Put(id, w, lag)))
	case 2:
		a, e := c.Leave(id)
		b, g := m.q.Leave(id)
		return fmt.Sprint("Leave: ", a, e), fmt.Sprint("Leave: ", b, m.aged(g))
	case 3:
		return fmt.Sprint("Weigh: ", c.Weigh(id, w)), fmt.Sprint("Weigh: ", m.aged(m.q.Weigh(id, w)))
	case 4:
		tag, f, base := r.below(3), m.q.Form(), bases()[r.below(4)]
		if !owed.Good(f) {
			return "", ""
		}
		q := queue(t, tag, f, base)
		m.q = queue(t, tag, f, base)
		return fmt.Sprint("Change: ", c.Change(q)), fmt.Sprint("Change: ", api.OK)
	case 5:
		f := form(-1, item(id+1, 1, 0))
		if owed.Same(f, m.q.Form()) {
			return "", ""
		}
		return fmt.Sprint("Change: ", c.Change(queue(t, r.below(3), f, 0))), fmt.Sprint("Change: ", api.ESTATE)
	}
	a, e := c.Run()
	b, g := m.run()
	return fmt.Sprint("Run: ", a, e), fmt.Sprint("Run: ", b, g)
}

// TestPlay holds cores against their models, call by call.
func TestPlay(t *testing.T) {
	for n, ids := range []int{1, 2, 3, 5, 10, 70} {
		r := chance(n)
		for _, tag := range tags() {
			for _, base := range bases() {
				for _, f := range right() {
					c := seeded(t, tag, f, base)
					plays(t, &r, ids, c, &model{q: queue(t, tag, f, base), served: map[int]int64{}})
				}
			}
		}
	}
}

func plays(t *testing.T, r *chance, ids int, c *Core, m *model) {
	t.Helper()
	asked := []int{-1, mostID}
	for id := range ids + 1 {
		asked = append(asked, id)
	}
	for i := range 100 {
		got, want := play(t, r, ids, c, m)
		if a, b := state(c, asked...), m.state(asked...); got != want || a != b {
			t.Fatalf("P15.1: %d IDs, call %d: %s, want %s; then %s, want %s", ids, i, got, want, a, b)
		}
	}
}

// between tells how far the points of a form are from each other.
func between(f owed.Form) int64 {
	least, most := f.L[0].Lag, f.L[0].Lag
	for _, x := range f.L {
		least, most = min(least, x.Lag), max(most, x.Lag)
	}
	return most - least
}

// crowds are the weights of tasks that are on a core together.
func crowds() [][]int {
	full, light, heavy := make([]int, 64), make([]int, 64), slices.Repeat([]int{20}, 64)
	for i := range full {
		full[i], light[i] = 1+i*7%20, 1
	}
	heavy[40] = 1
	return [][]int{{1}, {20}, {1, 1}, {1, 2}, {20, 20}, {1, 20}, {20, 1, 20}, {1, 20, 7, 3, 3, 12}, {19, 17, 13, 11, 7, 5, 3, 2}, slices.Repeat([]int{1, 20}, 6), full, light, heavy}
}

// TestShares: whatever the policies are and whenever they change, no two points
// are far from each other, and each task runs its share.
func TestShares(t *testing.T) {
	r := chance(7)
	for _, ws := range crowds() {
		total, _ := weight.Total(ws)
		for _, tag := range tags() {
			// Of how many ticks, on average, one is ahead of a change.
			for _, every := range []int{1, 2, 7, 40, 1 << 30} {
				c := fresh(t, tag, bases()[r.below(6)])
				for id, w := range ws {
					done(t, c.Enter(id, w, 0, r.below(2) == 0))
				}
				for n := int64(1); n <= 1500; n++ {
					if r.below(every) == 0 {
						done(t, c.Change(queue(t, r.below(3), c.Form(), bases()[r.below(6)])))
					}
					if id, e := c.Run(); id < 0 || id >= len(ws) || e != api.OK {
						t.Fatalf("P15.2: Run %d of weights %v: %d, %d", n, ws, id, e)
					}
					if d := between(c.Form()); d > 5*tick {
						t.Fatalf("P15.2: after %d ticks, weights %v, tag %d: points differ by %d: %s", n, ws, c.Tag(), d, owed.Text(c.Form()))
					}
					shared(t, c, ws, total, n)
				}
			}
		}
	}
}

// shared tells when a task has not run its share of n ticks.
func shared(t *testing.T, c *Core, ws []int, total int, n int64) {
	t.Helper()
	all := int64(0)
	for id, w := range ws {
		got := c.Served(id)
		all += got
		if d := got - weight.Share(w, total, n); d > int64(5*w) || d < int64(-5*w) {
			t.Fatalf("P15.2: after %d ticks, weights %v: task %d has run %d, its share is %d", n, ws, id, got, weight.Share(w, total, n))
		}
	}
	if all != n {
		t.Fatalf("P15.2: after %d ticks, weights %v: the tasks have run %d", n, ws, all)
	}
}

// TestOwnMemory: forms that go in and come out share nothing with the core nor
// with each other.
func TestOwnMemory(t *testing.T) {
	for _, tag := range tags() {
		room := []owed.Item{item(1, 2, 0), item(3, 1, -5), item(4, 4, 4)}
		was := slices.Clone(room)
		c := seeded(t, tag, owed.Form{Cur: 3, L: room[:2]}, 7)
		a, b := c.Form(), c.Form()
		for i := range a.L[:cap(a.L)] {
			a.L[:cap(a.L)][i] = item(9, 9, 9)
		}
		if !owed.Same(b, form(3, was[:2]...)) || slices.Contains(b.L[:cap(b.L)], item(9, 9, 9)) {
			t.Errorf("R4: two Forms share memory, tag %d: %s", tag, owed.Text(b))
		}
		if !slices.Equal(room, was) {
			t.Errorf("R4: what was handed in, tag %d: %v", tag, room)
		}
		room[0], room[1], room[2] = item(8, 8, 8), item(8, 8, 8), item(8, 8, 8)
		holds(t, "after a change of the lists", c, fmt.Sprintf("tag %d, 3: 1/2/0 3/1/-5, load 3, idle 0, age 0, served", tag))
	}
}

// TestApart: cores have nothing to do with each other, nor has the queue that
// was replaced with its core.
func TestApart(t *testing.T) {
	f := form(1, item(1, 1, 0))
	for _, tag := range tags() {
		c, d, e := seeded(t, tag, f, 0), seeded(t, tag, f, 0), fresh(t, tag, 0)
		old, next := queue(t, 1, f, 0), queue(t, 2, f, 0)
		done(t, c.Change(old))
		done(t, c.Change(next))
		done(t, old.Weigh(1, 9))
		holds(t, "a core whose former queue goes on", c, "tag 2, 1: 1/1/0, load 1, idle 0, age 0, served 0 0", 1, 2)
		for range 3 {
			ran(t, c, 1)
		}
		done(t, c.Weigh(1, 5))
		done(t, c.Enter(2, 1, 0, false))
		holds(t, "a core that has changed", c, "tag 2, 1: 1/5/0 2/1/0, load 6, idle 0, age 5, served 3 0", 1, 2)
		if old.Tag() != 1 || owed.Text(old.Form()) != "1: 1/9/0" {
			t.Errorf("P15.1: the former queue of a core: tag %d, %s", old.Tag(), owed.Text(old.Form()))
		}
		holds(t, "a core beside another one", d, fmt.Sprintf("tag %d, 1: 1/1/0, load 1, idle 0, age 0, served 0 0", tag), 1, 2)
		holds(t, "an empty core beside others", e, fmt.Sprintf("tag %d, -1:, load 0, idle 0, age 0, served 0 0", tag), 1, 2)
	}
}
