package policy

import (
	"fmt"
	"math"
	"slices"
	"testing"

	"stadholder/api"
	"stadholder/due"
	"stadholder/fair"
	"stadholder/owed"
	"stadholder/stride"
)

const (
	top      = math.MaxInt
	low      = math.MinInt
	most     = int64(1) << 50 // the greatest Lag
	half     = int64(1) << 60 // the greatest base of a new queue
	farthest = int64(1) << 61 // the greatest point that Charge leads to
	mostID   = 1 << 30
	tick     = int64(232792560) // of a task with weight 1
	bonus    = 3 * tick
)

// tags are the three that are valid, in the order of their policies.
func tags() []int { return []int{0, 1, 2} }

func wrongTags() []int {
	return []int{-1, 3, 4, -2, 1 << 32, 1<<32 + 1, 1<<32 + 2, 1 << 8, 1 << 16, top, top - 1, low, low + 1, low + 2}
}

// own is a queue of the package of a policy, with the Run that the chapter
// makes of it.
type own struct{ queue }

func (q own) Run() (int, api.Errno) {
	if _, some := q.Pick(); !some {
		return 0, api.ENONE
	}
	return q.Charge()
}

// made and grown are queues of the package of a policy, or the error.
func made(tag int, base int64) (own, api.Errno) {
	switch tag {
	case 0:
		q, e := stride.New(base)
		return own{q}, e
	case 1:
		q, e := fair.New(base)
		return own{q}, e
	}
	q, e := due.New(base)
	return own{q}, e
}

func grown(tag int, f owed.Form, base int64) (own, api.Errno) {
	switch tag {
	case 0:
		q, e := stride.Seed(f, base)
		return own{q}, e
	case 1:
		q, e := fair.Seed(f, base)
		return own{q}, e
	}
	q, e := due.Seed(f, base)
	return own{q}, e
}

func form(cur int, l ...owed.Item) owed.Form { return owed.Form{Cur: cur, L: l} }

func item(id, w int, lag int64) owed.Item { return owed.Item{ID: id, W: w, Lag: lag} }

// fresh is a new queue, where the tag and the base are accepted.
func fresh(t *testing.T, tag int, base int64) *Q {
	t.Helper()
	q, e := New(tag, base)
	if e != api.OK || q == nil {
		t.Fatalf("P14.1: New(%d, %d): %d", tag, base, e)
	}
	return q
}

// seeded is a queue seeded with a form, where all is accepted.
func seeded(t *testing.T, tag int, f owed.Form, base int64) *Q {
	t.Helper()
	q, e := Seed(tag, f, base)
	if e != api.OK || q == nil {
		t.Fatalf("P14.1: Seed(%d, %s, %d): %d", tag, owed.Text(f), base, e)
	}
	return q
}

// done is for a call that is to be accepted.
func done(t *testing.T, e api.Errno) {
	t.Helper()
	if e != api.OK {
		t.Fatalf("P14.1: error %d of a call that is to be accepted", e)
	}
}

// holds tells when a queue is not in a state.
func holds(t *testing.T, why string, q *Q, want string) {
	t.Helper()
	if got := owed.Text(q.Form()); got != want {
		t.Errorf("P14.1: %s, tag %d: %s, want %s", why, q.Tag(), got, want)
	}
}

// refused tells when a call does not return an error and zero, or leaves a
// trace.
func refused[N int | int64](t *testing.T, why string, q *Q, call func() (N, api.Errno), want api.Errno) {
	t.Helper()
	was := owed.Text(q.Form())
	if n, e := call(); n != 0 || e != want {
		t.Errorf("P14.1: %s, tag %d: %d, error %d, want 0 and error %d", why, q.Tag(), n, e, want)
	}
	if is := owed.Text(q.Form()); is != was {
		t.Errorf("R3: after error %d of %s, tag %d: %s, want %s", want, why, q.Tag(), is, was)
	}
}

func bases() []int64 {
	return []int64{0, 1, -1, 12345, -77, 1 << 32, half, half - 1, -half, 1 - half}
}

func wrongBases() []int64 {
	return []int64{half + 1, -half - 1, farthest, -farthest, half + 1<<32, top, low}
}

// right are forms that a queue is seeded with.
func right() []owed.Form {
	full := form(63)
	for i := range 64 {
		full.L = append(full.L, item(i, 1+i%20, int64(i%7)*-tick))
	}
	return []owed.Form{form(-1), {Cur: -1, L: []owed.Item{}}, full,
		form(-1, item(0, 1, 0)), form(0, item(0, 20, most)), form(mostID, item(1, 2, 0), item(mostID, 7, -most)), form(-1, item(1, 1, -1), item(2, 1, 1)),
		form(3, item(1, 2, 0), item(3, 1, -5)), form(2, item(1, 3, 500), item(2, 1, -9*tick), item(4, 20, 0)), form(3, item(1, 1, 2*tick), item(2, 2, tick), item(3, 4, -100*tick))}
}

// wrong are forms that are not valid, each for a reason of its own.
func wrong() []owed.Form {
	many := form(-1)
	for i := range 65 {
		many.L = append(many.L, item(i, 1, 0))
	}
	return []owed.Form{many, form(0), form(-2), form(2, item(1, 1, 0)), form(-1, item(-1, 1, 0)), form(-1, item(mostID+1, 1, 0)),
		form(-1, item(1, 0, 0)), form(-1, item(1, 21, 0)), form(-1, item(1, 1, most+1)), form(-1, item(1, 1, 0), item(2, 1, -most-1)),
		form(1, item(1, 1, -1)), form(-1, item(1, 1, 0), item(1, 1, 0)), form(-1, item(2, 1, 0), item(1, 1, 0))}
}

func TestTags(t *testing.T) {
	for tag, name := range []string{"stride", "fair", "due"} {
		if !Good(tag) || Name(tag) != name {
			t.Errorf("P14.1: tag %d: %t, %s, want true, %s", tag, Good(tag), Name(tag), name)
		}
		if q, p := fresh(t, tag, 5), seeded(t, tag, form(1, item(1, 1, 0)), 5); q.Tag() != tag || p.Tag() != tag {
			t.Errorf("P14.1: Tag of tag %d: %d, %d", tag, q.Tag(), p.Tag())
		}
	}
	for _, tag := range wrongTags() {
		if Good(tag) || Name(tag) != "?" {
			t.Errorf("P14.1: tag %d: %t, %s, want false, ?", tag, Good(tag), Name(tag))
		}
	}
}

func TestNew(t *testing.T) {
	for _, tag := range tags() {
		for _, base := range bases() {
			holds(t, fmt.Sprint("New from ", base), fresh(t, tag, base), "-1:")
		}
		for _, base := range wrongBases() {
			if q, e := New(tag, base); q != nil || e != api.EARG {
				t.Errorf("P14.1: New(%d, %d): %v, %d, want nil, EARG", tag, base, q, e)
			}
		}
	}
	for _, tag := range wrongTags() {
		for _, base := range append(bases(), wrongBases()...) {
			if q, e := New(tag, base); q != nil || e != api.EARG {
				t.Errorf("P14.1: New(%d, %d): %v, %d, want nil, EARG", tag, base, q, e)
			}
		}
	}
}

func TestSeed(t *testing.T) {
	everywhere := append(bases(), wrongBases()...)
	for _, tag := range tags() {
		for _, f := range right() {
			for _, base := range bases() {
				holds(t, fmt.Sprint("Seed from ", base), seeded(t, tag, f, base), owed.Text(f))
			}
			for _, base := range wrongBases() {
				notSeeded(t, tag, f, base)
			}
		}
		for _, f := range wrong() {
			for _, base := range everywhere {
				notSeeded(t, tag, f, base)
			}
		}
	}
	for _, tag := range wrongTags() {
		for _, f := range append(right(), wrong()...) {
			for _, base := range everywhere {
				notSeeded(t, tag, f, base)
			}
		}
	}
}

func notSeeded(t *testing.T, tag int, f owed.Form, base int64) {
	t.Helper()
	if q, e := Seed(tag, f, base); q != nil || e != api.EARG {
		t.Errorf("P14.1: Seed(%d, %s, %d): %v, %d, want nil, EARG", tag, owed.Text(f), base, q, e)
	}
}

// runs are the tasks that run in n ticks, each with the number of ticks that it
// runs in a row.
func runs(t *testing.T, q *Q, n int) [][2]int {
	t.Helper()
	var l [][2]int
	for range n {
		id, e := q.Run()
		if e != api.OK || q.Form().Cur != id {
			t.Fatalf("P14.1: Run, tag %d: %d, %d; then %s", q.Tag(), id, e, owed.Text(q.Form()))
		}
		if len(l) == 0 || l[len(l)-1][0] != id {
			l = append(l, [2]int{id, 0})
		}
		l[len(l)-1][1]++
	}
	return l
}

// TestPolicies: what each policy is known by, gone through by hand, from every
// base.
func TestPolicies(t *testing.T) {
	for _, c := range []struct {
		weights []int
		want    [3][][2]int
	}{
		{[]int{1, 2}, [3][][2]int{
			{{0, 1}, {1, 2}, {0, 1}, {1, 2}, {0, 1}, {1, 2}},
			{{0, 3}, {1, 11}, {0, 5}, {1, 10}},
			{{1, 1}, {0, 1}, {1, 2}, {0, 1}, {1, 1}, {0, 1}, {1, 2}}}},
		{[]int{1, 1}, [3][][2]int{
			{{0, 1}, {1, 1}, {0, 1}, {1, 1}, {0, 1}, {1, 1}, {0, 1}, {1, 1}, {0, 1}},
			{{0, 3}, {1, 6}, {0, 6}, {1, 6}},
			{{0, 1}, {1, 1}, {0, 1}, {1, 1}, {0, 1}, {1, 1}, {0, 1}, {1, 1}, {0, 1}}}},
		{[]int{20, 20}, [3][][2]int{
			{{0, 1}, {1, 1}, {0, 1}, {1, 1}},
			{{0, 41}, {1, 82}, {0, 82}},
			{{0, 1}, {1, 1}, {0, 1}, {1, 1}}}},
	} {
		for tag, want := range c.want {
			for _, base := range bases() {
				q, n := fresh(t, tag, base), 0
				for id, w := range c.weights {
					done(t, q.Enter(id, w, 0))
				}
				for _, x := range want {
					n += x[1]
				}
				if got := runs(t, q, n); !slices.Equal(got, want) {
					t.Errorf("P14.1: weights %v, tag %d, base %d: %v, want %v", c.weights, tag, base, got, want)
				}
			}
		}
	}
}

// TestRunOfNone: the chapter's example, for all policies, and a queue whose
// last task left while it ran.
func TestRunOfNone(t *testing.T) {
	for _, tag := range tags() {
		q := fresh(t, tag, 0)
		refused(t, "Run", q, q.Run, api.ENONE)
		done(t, q.Enter(4, 1, 0))
		if id, e := q.Run(); id != 4 || e != api.OK {
			t.Errorf("P14.1: Run of one alone, tag %d: %d, %d", tag, id, e)
		}
		if lag, e := q.Leave(4); lag != 0 || e != api.OK {
			t.Errorf("P14.1: Leave of one alone, tag %d: %d, %d", tag, lag, e)
		}
		refused(t, "Run after the last one left", q, q.Run, api.ENONE)
		refused(t, "Charge of none", q, q.Charge, api.ENONE)
		if id, some := q.Pick(); id != 0 || some {
			t.Errorf("P14.1: Pick of none, tag %d: %d, %t", tag, id, some)
		}
	}
}

// TestRunPicks: Run picks even while a task runs or none does, and Charge alone
// does not.
func TestRunPicks(t *testing.T) {
	f := form(3, item(3, 1, -9*tick), item(5, 1, 0))
	for _, tag := range tags() {
		q, p := seeded(t, tag, f, 8), seeded(t, tag, f, 8)
		if id, e := q.Run(); id != 5 || e != api.OK {
			t.Errorf("P14.1: Run beside one that is far ahead, tag %d: %d, %d", tag, id, e)
		}
		holds(t, "Run", q, fmt.Sprintf("5: 3/1/%d 5/1/0", -8*tick))
		if id, e := p.Charge(); id != 3 || e != api.OK {
			t.Errorf("P14.1: Charge of one that is far ahead, tag %d: %d, %d", tag, id, e)
		}
		holds(t, "Charge", p, fmt.Sprintf("3: 3/1/%d 5/1/0", -10*tick))
		if !q.Back() || q.Back() {
			t.Errorf("P14.1: Back, tag %d", tag)
		}
		if id, e := q.Run(); id != 5 || e != api.OK {
			t.Errorf("P14.1: Run after Back, tag %d: %d, %d", tag, id, e)
		}
	}
}

// TestRunOver: Run returns the error of Charge, and has picked like Pick.
func TestRunOver(t *testing.T) {
	for _, tag := range tags() {
		q := fresh(t, tag, half)
		p, _ := made(tag, half)
		for range 1024 {
			done(t, q.Put(9, 1, -most))
			done(t, p.Put(9, 1, -most))
			q.Leave(9)
			p.Leave(9)
		}
		done(t, q.Put(1, 20, tick/20))
		done(t, p.Put(1, 20, tick/20))
		for n, want := range []api.Errno{api.OK, api.EOVER, api.EOVER} {
			id, e := q.Run()
			if k, g := p.Run(); id != k || e != g || e != want || !owed.Same(q.Form(), p.Form()) {
				t.Errorf("P14.1: Run %d just below MaxKey, tag %d: %d, %d; then %s", n, tag, id, e, owed.Text(q.Form()))
			}
		}
		refused(t, "Run at MaxKey", q, q.Run, api.EOVER)
		q.Back()
		if id, e := q.Run(); id != 0 || e != api.EOVER || q.Form().Cur != 1 {
			t.Errorf("P14.1: Run at MaxKey after Back, tag %d: %d, %d; then %s", tag, id, e, owed.Text(q.Form()))
		}
	}
}

// TestHeld: each lag as Enter leaves it, and beyond MaxLag, where Enter takes
// none, the same.
func TestHeld(t *testing.T) {
	for _, c := range []struct {
		lag  int64
		want [3]int64
	}{
		{0, [3]int64{0, 0, 0}}, {1, [3]int64{0, 1, 1}}, {-1, [3]int64{-1, -1, -1}}, {tick, [3]int64{0, tick, tick}}, {-tick, [3]int64{-tick, -tick, -tick}},
		{bonus - 1, [3]int64{0, bonus - 1, bonus - 1}}, {bonus, [3]int64{0, bonus, bonus}}, {bonus + 1, [3]int64{0, bonus, bonus}},
		{1 - bonus, [3]int64{1 - bonus, 1 - bonus, 1 - bonus}}, {-bonus, [3]int64{-bonus, -bonus, -bonus}}, {-bonus - 1, [3]int64{-bonus - 1, -bonus - 1, -bonus}},
		{1 << 32, [3]int64{0, bonus, bonus}}, {-1 << 32, [3]int64{-1 << 32, -1 << 32, -bonus}}, {most, [3]int64{0, bonus, bonus}}, {-most, [3]int64{-most, -most, -bonus}},
		{most + 1, [3]int64{0, bonus, bonus}}, {-most - 1, [3]int64{-most - 1, -most - 1, -bonus}}, {top, [3]int64{0, bonus, bonus}}, {low, [3]int64{low, low, -bonus}},
	} {
		for _, tag := range tags() {
			// One with Lag 0 keeps the base where it is.
			q := seeded(t, tag, form(5, item(5, 1, 0)), 77)
			if got := q.Held(c.lag); got != c.want[tag] {
				t.Errorf("P14.1: Held(%d), tag %d: %d, want %d", c.lag, tag, got, c.want[tag])
			}
			holds(t, "Held", q, "5: 5/1/0")
			if c.lag < -most || c.lag > most {
				refused(t, "Enter beyond MaxLag", q, func() (int, api.Errno) { return 0, q.Enter(3, 20, c.lag) }, api.EARG)
				continue
			}
			done(t, q.Enter(3, 20, c.lag))
			holds(t, "Enter", q, fmt.Sprintf("5: 3/20/%d 5/1/0", c.want[tag]))
			done(t, q.Put(4, 20, c.lag))
			holds(t, "Put", q, fmt.Sprintf("5: 3/20/%d 4/20/%d 5/1/0", c.want[tag], c.lag))
		}
	}
}

// TestErrors: those of the policies, the first one that applies.
func TestErrors(t *testing.T) {
	for _, tag := range tags() {
		q, full := seeded(t, tag, form(7, item(3, 2, 5), item(7, 1, 0)), 100), seeded(t, tag, right()[2], 100)
		for _, c := range []struct {
			q     *Q
			id, w int
			lag   int64
			want  api.Errno
		}{
			{q, -1, 1, 0, api.EARG}, {q, mostID + 1, 1, 0, api.EARG}, {q, 1, 0, 0, api.EARG}, {q, 1, 21, 0, api.EARG}, {q, 3, 1, most + 1, api.EARG},
			{q, 3, 1, low, api.EARG}, {q, 3, 2, 5, api.ESTATE}, {full, 64, 0, 0, api.EARG}, {full, 0, 1, 0, api.ESTATE}, {full, 64, 1, 0, api.EFULL},
		} {
			why := fmt.Sprint(c.id, c.w, c.lag)
			refused(t, "Enter "+why, c.q, func() (int, api.Errno) { return 0, c.q.Enter(c.id, c.w, c.lag) }, c.want)
			refused(t, "Put "+why, c.q, func() (int, api.Errno) { return 0, c.q.Put(c.id, c.w, c.lag) }, c.want)
		}
		refused(t, "Weigh of nobody", q, func() (int, api.Errno) { return 0, q.Weigh(4, 0) }, api.EID)
		refused(t, "Weigh beyond MaxWeight", q, func() (int, api.Errno) { return 0, q.Weigh(3, 21) }, api.EARG)
		refused(t, "Leave of nobody", q, func() (int64, api.Errno) { return q.Leave(4) }, api.EID)
	}
}

// chance answers numbers without order, the same ones at every run.
type chance uint64

func (c *chance) below(n int) int {
	*c = *c*6364136223846793005 + 1442695040888963407
	return int(uint64(*c) >> 33 % uint64(n))
}

// lags are Lags of all sizes, and some that are too great.
func lags() []int64 {
	return []int64{0, 0, 0, 1, -1, tick, -tick, tick / 7, -tick / 3, 4 * tick, -4 * tick, -100 * tick, bonus, bonus + 1, bonus - 1, -bonus, -bonus - 1, 1 - bonus, most, -most, 1 << 32, most + 1, -most - 1}
}

// runner is what a queue and one of the package of its policy have in common.
type runner interface {
	queue
	Run() (int, api.Errno)
}

// play makes a call that is chosen by chance, of both queues, and tells what
// each of them returned.
func play(c *chance, ids int, on ...runner) []string {
	op, id, w, lag := c.below(20), c.below(ids+2)-1, c.below(22), lags()[c.below(len(lags()))]
	told := make([]string, len(on))
	for i, q := range on {
		switch op {
		case 0, 1:
			told[i] = fmt.Sprint("Enter ", id, w, lag, ": ", q.Enter(id, w, lag))
		case 2:
			told[i] = fmt.Sprint("Put ", id, w, lag, ": ", q.Put(id, w, lag))
		case 3, 4:
			was, e := q.Leave(id)
			told[i] = fmt.Sprint("Leave ", id, ": ", was, e)
		case 5:
			told[i] = fmt.Sprint("Weigh ", id, w, ": ", q.Weigh(id, w))
		case 6:
			told[i] = fmt.Sprint("Back: ", q.Back())
		case 7, 8, 9:
			who, ok := q.Pick()
			told[i] = fmt.Sprint("Pick: ", who, ok)
		case 10, 11, 12:
			who, e := q.Charge()
			told[i] = fmt.Sprint("Charge: ", who, e)
		default:
			who, e := q.Run()
			told[i] = fmt.Sprint("Run: ", who, e)
		}
	}
	return told
}

// TestPlay holds queues against those of the packages of their policies, call
// by call.
func TestPlay(t *testing.T) {
	for n, ids := range []int{1, 2, 3, 5, 10, 80} {
		c := chance(n)
		for _, tag := range tags() {
			for _, base := range bases() {
				q := fresh(t, tag, base)
				p, e := made(tag, base)
				done(t, e)
				plays(t, &c, ids, q, p)
				for _, f := range right() {
					q := seeded(t, tag, f, base)
					p, e := grown(tag, f, base)
					done(t, e)
					plays(t, &c, ids, q, p)
				}
			}
		}
	}
}

func plays(t *testing.T, c *chance, ids int, q *Q, p own) {
	t.Helper()
	for i := range 150 {
		told := play(c, ids, q, p)
		if told[0] != told[1] || !owed.Same(q.Form(), p.Form()) {
			t.Fatalf("P14.1: tag %d, %d IDs, call %d: %s, want %s; then %s, want %s", q.Tag(), ids, i, told[0], told[1], owed.Text(q.Form()), owed.Text(p.Form()))
		}
	}
}

// TestOwnMemory: forms that go in and come out share nothing with the queue
// nor with each other.
func TestOwnMemory(t *testing.T) {
	for _, tag := range tags() {
		room := []owed.Item{item(1, 2, 0), item(3, 1, -5), item(4, 4, 4)}
		was := slices.Clone(room)
		q := seeded(t, tag, owed.Form{Cur: 3, L: room[:2]}, 7)
		a, b := q.Form(), q.Form()
		for i := range a.L[:cap(a.L)] {
			a.L[:cap(a.L)][i] = item(9, 9, 9)
		}
		if !owed.Same(b, form(3, was[:2]...)) || slices.Contains(b.L[:cap(b.L)], item(9, 9, 9)) {
			t.Errorf("R4: two Forms share memory, tag %d: %s", tag, owed.Text(b))
		}
		if !slices.Equal(room, was) {
			t.Errorf("R4: what was handed in, tag %d: %v", tag, room)
		}
		room[0], room[1], room[2] = item(8, 8, 8), item(8, 8, 8), item(8, 8, 8)
		holds(t, "after a change of the lists", q, "3: 1/2/0 3/1/-5")
	}
}

// TestApart: queues have nothing to do with each other, of whichever policies
// they are.
func TestApart(t *testing.T) {
	f := form(1, item(1, 1, 0))
	for _, tag := range tags() {
		for _, other := range tags() {
			q, p, r := seeded(t, tag, f, 0), seeded(t, other, f, 0), fresh(t, other, 0)
			runs(t, q, 3)
			done(t, q.Weigh(1, 5))
			done(t, q.Enter(2, 1, 0))
			q.Back()
			holds(t, "a queue beside another one", p, "1: 1/1/0")
			holds(t, "an empty queue beside others", r, "-1:")
			if p.Tag() != other || r.Tag() != other || q.Tag() != tag {
				t.Errorf("P14.1: Tags %d, %d, %d beside each other", q.Tag(), p.Tag(), r.Tag())
			}
		}
	}
}
