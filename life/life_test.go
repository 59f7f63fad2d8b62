package life

import (
	"math"
	"slices"
	"testing"

	"stadholder/api"
)

const (
	top = math.MaxInt64
	low = math.MinInt64
)

// arrow is an action, with the states that it leads from and the one that it
// leads to.
type arrow struct {
	act  int
	from []int
	to   int
}

// arrows are all that may befall a task, as the chapter names it.
func arrows() []arrow {
	return []arrow{
		{1, []int{1}, 2},
		{2, []int{2}, 3},
		{3, []int{3}, 2},
		{4, []int{2, 3, 5}, 4},
		{5, []int{4}, 2},
		{6, []int{2, 3}, 5},
		{7, []int{5}, 2},
		{8, []int{1, 2, 3, 4, 5}, 6},
	}
}

// numbers are those around all states and actions, and others that have low
// bits of them.
func numbers() []int {
	l := []int{low, low + 1, low + 2, low + 8, -1 << 32, 3 - 1<<32, -1 << 31, -256, -255, -128, top - 1, top}
	for n := -10; n <= 20; n++ {
		l = append(l, n)
	}
	for _, mid := range []int{64, 128, 256, 1 << 16, 1 << 31, 1 << 32, 1 << 62} {
		for n := -2; n <= 9; n++ {
			l = append(l, mid+n)
		}
	}
	return l
}

// model tells what an action does to a state, by a look through the arrows.
func model(state, act int) (int, api.Errno) {
	if state < 0 || state > 6 || act < 1 || act > 8 {
		return 0, api.EARG
	}
	for _, a := range arrows() {
		if a.act == act && slices.Contains(a.from, state) {
			return a.to, api.OK
		}
	}
	return 0, api.ESTATE
}

func TestNext(t *testing.T) {
	for _, state := range numbers() {
		for _, act := range numbers() {
			want, err := model(state, act)
			if got, e := Next(state, act); got != want || e != err {
				t.Errorf("P9.1: Next(%d, %d): %d, %d, want %d, %d", state, act, got, e, want, err)
			}
		}
	}
}

// TestErrors: that a number is none comes ahead of what the state allows, and
// beside an error stands no state.
func TestErrors(t *testing.T) {
	for _, c := range []struct {
		state, act int
		want       api.Errno
	}{
		{-1, 1, api.EARG}, {7, 1, api.EARG}, {7, 8, api.EARG}, {-1, 8, api.EARG}, {8, 3, api.EARG},
		{1, 0, api.EARG}, {1, 9, api.EARG}, {1, -1, api.EARG}, {2, 0, api.EARG}, {5, 9, api.EARG},
		{0, 0, api.EARG}, {0, 9, api.EARG}, {6, 0, api.EARG}, {6, 9, api.EARG}, {6, -8, api.EARG},
		{-1, 0, api.EARG}, {7, 9, api.EARG}, {low, top, api.EARG}, {top, low, api.EARG},
		{0, 1, api.ESTATE}, {0, 8, api.ESTATE}, {6, 1, api.ESTATE}, {6, 5, api.ESTATE}, {6, 8, api.ESTATE},
		{1, 2, api.ESTATE}, {1, 4, api.ESTATE}, {1, 6, api.ESTATE}, {2, 1, api.ESTATE}, {2, 3, api.ESTATE},
		{2, 5, api.ESTATE}, {2, 7, api.ESTATE}, {3, 2, api.ESTATE}, {4, 2, api.ESTATE}, {4, 4, api.ESTATE},
		{4, 6, api.ESTATE}, {4, 7, api.ESTATE}, {5, 2, api.ESTATE}, {5, 5, api.ESTATE}, {5, 6, api.ESTATE},
	} {
		if got, e := Next(c.state, c.act); got != 0 || e != c.want {
			t.Errorf("P9.1: Next(%d, %d): %d, %d, want 0, %d", c.state, c.act, got, e, c.want)
		}
	}
}

func TestWays(t *testing.T) {
	want := [][]int{0: {}, 1: {1, 8}, 2: {2, 4, 6, 8}, 3: {3, 4, 6, 8}, 4: {5, 8}, 5: {4, 7, 8}, 6: {}}
	for _, state := range numbers() {
		got := Ways(state)
		if state < 0 || state > 6 {
			if len(got) != 0 {
				t.Errorf("P9.1: Ways(%d): %v, want none", state, got)
			}
			continue
		}
		if !slices.Equal(got, want[state]) {
			t.Errorf("P9.1: Ways(%d): %v, want %v", state, got, want[state])
		}
	}
}

// TestWaysAreNew: whatever is written into an answer, and behind it, the next
// answer is as ever.
func TestWaysAreNew(t *testing.T) {
	for state := range 7 {
		first, want := Ways(state), Ways(state)
		all := first[:cap(first)]
		for n := range all {
			all[n] = -1
		}
		if again := Ways(state); !slices.Equal(again, want) {
			t.Errorf("R4: Ways(%d) after a change of its answer: %v, want %v", state, again, want)
		}
		for _, act := range want {
			if _, e := Next(state, act); e != api.OK {
				t.Errorf("R4: Next(%d, %d) after a change of the ways: %d", state, act, e)
			}
		}
	}
}

func TestWaits(t *testing.T) {
	for _, state := range numbers() {
		if want := state == 2 || state == 3; Waits(state) != want {
			t.Errorf("P9.1: Waits(%d) = %t", state, Waits(state))
		}
	}
}

func TestName(t *testing.T) {
	want := []string{"none", "new", "ready", "runs", "sleeps", "held", "gone"}
	for _, state := range numbers() {
		name := "?"
		if state >= 0 && state < len(want) {
			name = want[state]
		}
		if got := Name(state); got != name {
			t.Errorf("P9.1: Name(%d): %q, want %q", state, got, name)
		}
	}
}

func TestExample(t *testing.T) {
	if got, e := Next(1, 1); got != 2 || e != api.OK {
		t.Errorf("P9.1: Next(1, 1): %d, %d, want 2, 0", got, e)
	}
}

// TestLives goes through whole lives, each told by its actions and the names
// of what they lead to.
func TestLives(t *testing.T) {
	for _, c := range []struct {
		acts []int
		want []string
	}{
		{[]int{8}, []string{"gone"}},
		{[]int{1, 8}, []string{"ready", "gone"}},
		{[]int{1, 2, 3, 2, 8}, []string{"ready", "runs", "ready", "runs", "gone"}},
		{[]int{1, 4, 5, 2, 4, 8}, []string{"ready", "sleeps", "ready", "runs", "sleeps", "gone"}},
		{[]int{1, 6, 7, 2, 6, 4, 5, 6, 8}, []string{"ready", "held", "ready", "runs", "held", "sleeps", "ready", "held", "gone"}},
	} {
		state := 1
		for n, act := range c.acts {
			to, e := Next(state, act)
			if e != api.OK || Name(to) != c.want[n] {
				t.Fatalf("P9.1: action %d of %v: %s, %d, want %s", n, c.acts, Name(to), e, c.want[n])
			}
			state = to
		}
		if Waits(state) || len(Ways(state)) != 0 {
			t.Errorf("P9.1: after %v: %s, waits: %t, ways: %v", c.acts, Name(state), Waits(state), Ways(state))
		}
	}
}

// TestReach: from new, every state but none is reached, and from every state
// but none and gone, gone is one action away.
func TestReach(t *testing.T) {
	seen := []int{1}
	for n := 0; n < len(seen); n++ {
		for _, act := range Ways(seen[n]) {
			to, e := Next(seen[n], act)
			if e != api.OK {
				t.Fatalf("P9.1: %d is one of the ways of %d, and Next returns %d", act, seen[n], e)
			}
			if !slices.Contains(seen, to) {
				seen = append(seen, to)
			}
		}
		if ends := slices.Contains(Ways(seen[n]), 8); ends != (seen[n] != 6) {
			t.Errorf("P9.1: state %d can end: %t", seen[n], ends)
		}
	}
	slices.Sort(seen)
	if !slices.Equal(seen, []int{1, 2, 3, 4, 5, 6}) {
		t.Errorf("P9.1: reached from new: %v", seen)
	}
}
