package account

import (
	"math"
	"math/big"
	"slices"
	"testing"

	"stadholder/api"
)

const (
	top = math.MaxInt64
	low = math.MinInt64
	// most is the greatest quota and the greatest period.
	most = 1 << 30
)

// wrong are neither quotas nor periods, some with the low bits of one.
func wrong() []int64 {
	return []int64{low, low + 1, low + most, -1 << 32, 1 - 1<<32, -most - 1, -most, -most + 1, -2, -1, 0,
		most + 1, most + 2, 1<<31 - 1, 1 << 31, 1<<32 - 1, 1 << 32, 1<<32 + 1, top - 1, top}
}

// right are quotas, and periods.
func right() []int64 {
	return []int64{1, 2, 3, 5, 255, 256, 257, 65536, most - 2, most - 1, most}
}

// valid are all accounts with a quota whose Left and Phase are at an edge.
func valid() []Account {
	var l []Account
	for _, quota := range right() {
		for _, period := range right() {
			for _, left := range []int64{0, 1, quota / 2, quota - 1, quota} {
				for _, phase := range []int64{0, 1 % period, period / 2, period - 1} {
					l = append(l, Account{Quota: quota, Period: period, Left: left, Phase: phase})
				}
			}
		}
	}
	return l
}

// invalid are accounts each with one field that makes it so, and some with
// several.
func invalid() []Account {
	l := []Account{
		{Quota: 1}, {Period: 1}, {Left: 1}, {Phase: 1}, {Left: -1}, {Phase: -1}, {Quota: low}, {Period: low}, {Left: low}, {Phase: low},
		{Quota: top}, {Period: top}, {Left: top}, {Phase: top}, {Left: 1, Phase: 1}, {Quota: 1, Left: 1}, {Period: 2, Phase: 1},
		{Quota: -3, Period: 10, Left: -3}, {Quota: -3, Period: -10, Left: -2, Phase: -9}, {Quota: 3, Period: -10, Left: 3, Phase: -11},
		{low, low, low, low}, {top, top, top, top}, {-1, -1, -1, -1},
	}
	for _, x := range wrong() {
		for _, y := range right() {
			l = append(l, Account{Quota: x, Period: y}, Account{Quota: y, Period: x}, Account{Quota: x, Period: y, Left: x})
		}
	}
	for _, y := range right() {
		for _, x := range []int64{low, low + 1, low + y, -1 << 32, -y, -1, y + 1, 1<<32 + y, top - 1, top} {
			l = append(l, Account{Quota: y, Period: 7, Left: x, Phase: 6})
		}
		for _, x := range []int64{low, low + 1, low + y - 1, -1 << 32, -y, -1, y, y + 1, 1<<32 + y - 1, top - 1, top} {
			l = append(l, Account{Quota: 7, Period: y, Left: 7, Phase: x})
		}
	}
	return l
}

func TestNew(t *testing.T) {
	for _, quota := range append(wrong(), right()...) {
		for _, period := range append(wrong(), right()...) {
			want, e := Account{}, api.OK
			switch {
			case slices.Contains(right(), quota) && slices.Contains(right(), period):
				want = Account{Quota: quota, Period: period, Left: quota, Phase: 0}
			case quota != 0 || period != 0:
				e = api.EARG
			}
			if got, err := New(quota, period); got != want || err != e {
				t.Errorf("P8.1: New(%d, %d): %v, %d, want %v, %d", quota, period, got, err, want, e)
			}
		}
	}
}

func TestGood(t *testing.T) {
	if !Good(Account{}) {
		t.Errorf("P8.1: Good of the unlimited account is false")
	}
	for _, a := range valid() {
		if !Good(a) {
			t.Errorf("P8.1: Good(%v) is false", a)
		}
	}
	for _, a := range invalid() {
		if Good(a) {
			t.Errorf("P8.1: Good(%v) is true", a)
		}
	}
}

// TestSmallAccounts goes through all accounts with small fields: the valid
// ones are those that a quota and a period leave room for.
func TestSmallAccounts(t *testing.T) {
	good := map[Account]bool{{}: true}
	for quota := int64(1); quota <= 4; quota++ {
		for period := int64(1); period <= 4; period++ {
			for left := range quota + 1 {
				for phase := range period {
					good[Account{quota, period, left, phase}] = true
				}
			}
		}
	}
	for n := range int64(7 * 7 * 7 * 7) {
		a := Account{n%7 - 2, n/7%7 - 2, n/49%7 - 2, n/343 - 2}
		if Good(a) != good[a] {
			t.Errorf("P8.1: Good(%v) = %t", a, Good(a))
		}
		if good[a] && a.Quota > 0 {
			checkValid(t, a)
		} else if !good[a] {
			checkInvalid(t, a)
		}
	}
}

// checkValid holds what an account with a quota answers against its fields.
func checkValid(t *testing.T, a Account) {
	t.Helper()
	if got := Spent(a); got != (a.Left == 0) {
		t.Errorf("P8.1: Spent(%v) = %t", a, got)
	}
	want, e := Account{}, api.ENONE
	if a.Left > 0 {
		want, e = Account{a.Quota, a.Period, a.Left - 1, a.Phase}, api.OK
	}
	if got, err := Use(a); got != want || err != e {
		t.Errorf("P8.1: Use(%v): %v, %d, want %v, %d", a, got, err, want, e)
	}
	next := Next(a)
	if b, ended := Tick(a, next); next < 1 || !ended || b.Phase != 0 {
		t.Errorf("P8.1: Next(%v) = %d, and after so many ticks: %v, %t", a, next, b, ended)
	}
	if b, ended := Tick(a, next-1); ended || b.Phase != a.Period-1 || b.Left != a.Left {
		t.Errorf("P8.1: Next(%v) = %d, and after one tick less: %v, %t", a, next, b, ended)
	}
}

func checkInvalid(t *testing.T, a Account) {
	t.Helper()
	if Spent(a) || Next(a) != 0 {
		t.Errorf("P8.1: Spent and Next of %v: %t, %d, want false, 0", a, Spent(a), Next(a))
	}
	if got, e := Use(a); got != (Account{}) || e != api.EARG {
		t.Errorf("P8.1: Use(%v): %v, %d, want none, %d", a, got, e, api.EARG)
	}
	for _, n := range times() {
		if got, ended := Tick(a, n); got != a || ended {
			t.Errorf("P8.1: Tick(%v, %d): %v, %t, want no change", a, n, got, ended)
		}
	}
}

// times are numbers of ticks, around which periods end and sums overflow.
func times() []int64 {
	l := []int64{low, low + 1, -1 << 32, -most, -2, -1}
	for _, mid := range []int64{2, 5, 256, most, 2 * most, 1 << 32, 1 << 62, top - most} {
		l = append(l, mid-2, mid-1, mid, mid+1, mid+2)
	}
	return append(l, top-2, top-1, top)
}

// ticked is what an account with a quota is after n ticks, in numbers of any
// length.
func ticked(a Account, n int64) (Account, bool) {
	at := new(big.Int).Add(big.NewInt(a.Phase), big.NewInt(max(n, 0)))
	periods, phase := new(big.Int).DivMod(at, big.NewInt(a.Period), new(big.Int))
	a.Phase = phase.Int64()
	if periods.Sign() == 0 {
		return a, false
	}
	a.Left = a.Quota
	return a, true
}

func TestValidAndInvalid(t *testing.T) {
	for _, a := range valid() {
		checkValid(t, a)
		for _, n := range times() {
			want, ended := ticked(a, n)
			if got, ok := Tick(a, n); got != want || ok != ended {
				t.Errorf("P8.1: Tick(%v, %d): %v, %t, want %v, %t", a, n, got, ok, want, ended)
			}
		}
	}
	for _, a := range invalid() {
		checkInvalid(t, a)
	}
}

func TestNext(t *testing.T) {
	for _, c := range []struct {
		period, phase, want int64
	}{{1, 0, 1}, {2, 0, 2}, {2, 1, 1}, {10, 0, 10}, {10, 3, 7}, {10, 9, 1}, {most, 0, most}, {most, 1, most - 1}, {most, most - 1, 1}} {
		for _, left := range []int64{0, 1, 3} {
			if got := Next(Account{3, c.period, left, c.phase}); got != c.want {
				t.Errorf("P8.1: Next at %d of %d: %d, want %d", c.phase, c.period, got, c.want)
			}
		}
	}
}

func TestUnlimited(t *testing.T) {
	a, e := New(0, 0)
	for n := range 1000 {
		if a != (Account{}) || e != api.OK || Spent(a) || Next(a) != 0 || !Good(a) {
			t.Fatalf("P8.1: the unlimited account, used %d times: %v, %d", n, a, e)
		}
		a, e = Use(a)
	}
	for _, n := range times() {
		if got, ended := Tick(a, n); got != (Account{}) || ended {
			t.Errorf("P8.1: Tick of the unlimited account by %d: %v, %t", n, got, ended)
		}
	}
}

func use(t *testing.T, a Account, n int) Account {
	t.Helper()
	for range n {
		b, e := Use(a)
		if e != api.OK {
			t.Fatalf("P8.1: Use(%v): %d", a, e)
		}
		a = b
	}
	return a
}

func TestExample(t *testing.T) {
	a, e := New(2, 5)
	if e != api.OK {
		t.Fatalf("P8.1: New(2, 5): %d", e)
	}
	a = use(t, a, 2)
	if !Spent(a) || a != (Account{2, 5, 0, 0}) {
		t.Errorf("P8.1: used twice: %v, spent: %t", a, Spent(a))
	}
	if a, ended := Tick(a, 5); a != (Account{2, 5, 2, 0}) || !ended {
		t.Errorf("P8.1: 5 ticks later: %v, %t", a, ended)
	}
}

// TestQuotaOfEachPeriod: what a period leaves is not added to the next one,
// neither by one period that ends nor by many.
func TestQuotaOfEachPeriod(t *testing.T) {
	for _, n := range []int64{5, 6, 9, 10, 50, 5 << 40} {
		for used := range 4 {
			a, _ := New(3, 5)
			a, ended := Tick(use(t, a, used), n)
			if want := (Account{3, 5, 3, n % 5}); a != want || !ended {
				t.Errorf("P8.1: %d used, %d ticks later: %v, %t, want %v", used, n, a, ended, want)
			}
		}
	}
	// A quota may exceed its period.
	a, e := New(8, 3)
	a = use(t, a, 8)
	if _, none := Use(a); e != api.OK || none != api.ENONE {
		t.Errorf("P8.1: 8 per 3, used 9 times: %d, %d", e, none)
	}
}

// clock is a list with an entry for each tick: whether a period ends with it.
// It goes on from there.
func clock(period, ticks int) []bool {
	var l []bool
	for range ticks {
		l = append(l, len(l)%period == period-1)
	}
	return l
}

// TestTicksOneByOne holds any number of ticks at once, from any place of a
// period, against as many single ones and against a list of all of them.
func TestTicksOneByOne(t *testing.T) {
	for period := 1; period <= 7; period++ {
		l := clock(period, 40)
		for from := range period {
			start := Account{4, int64(period), 1, int64(from)}
			step, ever := start, false
			for n := range 30 {
				if got, ended := Tick(start, int64(n)); got != step || ended != ever {
					t.Fatalf("P8.1: Tick(%v, %d): %v, %t, and one by one: %v, %t", start, n, got, ended, step, ever)
				}
				if ever != slices.Contains(l[from:from+n], true) || ever != (step.Left == 4) {
					t.Fatalf("P8.1: %v, %d ticks later: %v, %t", start, n, step, ever)
				}
				var ended bool
				if step, ended = Tick(step, 1); ended != l[from+n] {
					t.Fatalf("P8.1: %v, tick %d of it: %t, want %t", start, n, ended, l[from+n])
				}
				ever = ever || ended
			}
		}
	}
}

// chance is a fixed sequence of numbers, from 0 on.
type chance uint64

func (c *chance) next(n int) int {
	*c = *c*6364136223846793005 + 1442695040888963407
	x := uint64(*c)
	x ^= x >> 29
	return int((x >> 8) % uint64(n))
}

// TestPlays holds long plays of uses and ticks against lists: of all ticks,
// and of those that were used, by the period that they were used in.
func TestPlays(t *testing.T) {
	for play := range 20 {
		c := chance(play)
		quota, period := 1+c.next(6), 1+c.next(9)
		a, _ := New(int64(quota), int64(period))
		now, used := 0, []int{}
		for turn := range 500 {
			present := 0
			for _, x := range used {
				if x == now/period {
					present++
				}
			}
			want := Account{int64(quota), int64(period), int64(quota - present), int64(now % period)}
			if a != want || Spent(a) != (present == quota) || Next(a) != int64(period-now%period) {
				t.Fatalf("P8.1: play %d, turn %d: %v, %t, %d, want %v", play, turn, a, Spent(a), Next(a), want)
			}
			if c.next(3) == 0 {
				n := c.next(2 * period)
				b, ended := Tick(a, int64(n))
				if ended != ((now+n)/period > now/period) {
					t.Fatalf("P8.1: play %d, turn %d: Tick(%v, %d): %t", play, turn, a, n, ended)
				}
				a, now = b, now+n
			} else if b, e := Use(a); e == api.OK {
				a, used = b, append(used, now/period)
			} else if b != (Account{}) || e != api.ENONE || present < quota {
				t.Fatalf("P8.1: play %d, turn %d: Use(%v): %v, %d", play, turn, a, b, e)
			}
		}
	}
}
