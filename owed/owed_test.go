package owed

import (
	"fmt"
	"math"
	"math/big"
	"slices"
	"strings"
	"testing"

	"stadholder/api"
)

const (
	top = math.MaxInt64
	low = math.MinInt64
	// most is the greatest Lag, and mostID the greatest ID.
	most   = 1 << 50
	mostID = 1 << 30
)

func form(cur int, l ...Item) Form {
	return Form{Cur: cur, L: l}
}

// chance answers numbers without order, the same ones at every run.
type chance uint64

func (c *chance) below(n int) int {
	*c = *c*6364136223846793005 + 1442695040888963407
	return int(uint64(*c) >> 33 % uint64(n))
}

// good is the chapter's list of what a valid form is, each point asked by
// itself.
func good(f Form) bool {
	if len(f.L) > 64 {
		return false
	}
	cur, ahead := f.Cur == -1, true
	for n, x := range f.L {
		if x.ID < 0 || x.ID > 1073741824 || x.W < 1 || x.W > 20 {
			return false
		}
		if x.Lag < -1125899906842624 || x.Lag > 1125899906842624 {
			return false
		}
		if n > 0 && f.L[n-1].ID >= x.ID {
			return false
		}
		cur = cur || f.Cur == x.ID
		ahead = ahead && x.Lag < 0
	}
	return cur && (len(f.L) == 0 || !ahead)
}

// put adds an item to a form, and puts the items in order anew.
func put(f Form, x Item) (Form, api.Errno) {
	if !good(f) {
		return Form{}, api.EARG
	}
	l := []Item{x}
	for _, y := range f.L {
		if y.ID == x.ID {
			return Form{}, api.ESTATE
		}
		l = append(l, y)
	}
	slices.SortFunc(l, func(a, b Item) int {
		if a.ID < b.ID {
			return -1
		}
		return 1
	})
	if !good(form(f.Cur, l...)) {
		return Form{}, api.EARG
	}
	return form(f.Cur, l...), api.OK
}

// drop takes all items over but the one with an ID.
func drop(f Form, id int) (Form, api.Errno) {
	if !good(f) {
		return Form{}, api.EARG
	}
	less := form(f.Cur)
	for _, x := range f.L {
		if x.ID != id {
			less.L = append(less.L, x)
		}
	}
	if len(less.L) == len(f.L) {
		return Form{}, api.EID
	}
	if f.Cur == id {
		less.Cur = -1
	}
	return less, api.OK
}

// front is the first item that none of the others is before.
func front(f Form) (Item, bool) {
	for _, x := range f.L {
		before := func(y Item) bool { return y.Lag > x.Lag || y.Lag == x.Lag && y.ID < x.ID }
		if !slices.ContainsFunc(f.L, before) {
			return x, true
		}
	}
	return Item{}, false
}

// sum is the sum as a whole, of which the low 64 bits are kept.
func sum(f Form) int64 {
	all := new(big.Int)
	for _, x := range f.L {
		all.Add(all, new(big.Int).Mul(big.NewInt(x.Lag), big.NewInt(int64(x.W))))
	}
	round := new(big.Int).Lsh(big.NewInt(1), 64)
	return int64(all.Mod(all, round).Uint64())
}

func text(f Form) string {
	words := []string{fmt.Sprintf("%d:", f.Cur)}
	for _, x := range f.L {
		words = append(words, fmt.Sprintf("%d/%d/%d", x.ID, x.W, x.Lag))
	}
	return strings.Join(words, " ")
}

// equal tells whether two forms have the same Cur and items, a nil list being
// an empty one.
func equal(a, b Form) bool {
	return text(a) == text(b)
}

// numbers are IDs and what is not quite one, some with the low bits of one.
func numbers() []int {
	return []int{low, low + 1, -1 << 32, 1 - 1<<32, -mostID, -2, -1, 0, 1, 2, 3, 5, 64, mostID - 1, mostID, mostID + 1,
		1<<31 - 1, 1 << 31, 1<<32 - 1, 1 << 32, 1<<32 + 1, 1<<32 + 2, 1<<32 + mostID, top - 1, top}
}

func weights() []int {
	return []int{low, low + 1, 1 - 1<<32, -20, -1, 0, 1, 2, 10, 19, 20, 21, 22, 256 + 1, 1<<32 + 1, 1 << 63 >> 1, top}
}

func lags() []int64 {
	return []int64{low, low + 1, low + most, -most - 2, -most - 1, -most, -most + 1, -1 << 32, -1, 0, 1, 1 << 32,
		most - 1, most, most + 1, most + 2, 1<<51 + 1, top - 1, top}
}

// run is a form of n items with IDs from 10 on, each ten behind the one ahead
// of it.
func run(cur, n int) Form {
	f := form(cur)
	for i := range n {
		f.L = append(f.L, Item{10 + 10*i, 1 + i%20, int64(i)})
	}
	return f
}

// edges are valid forms and others, at the edges that the chapter names.
func edges() []Form {
	l := []Form{form(-1), run(-1, 1), run(10, 1), run(-1, 63), run(-1, 64), run(640, 64), run(-1, 65), run(-1, 66), run(-1, 1000)}
	for _, n := range numbers() {
		l = append(l, form(n), form(n, Item{2, 1, 0}), form(n, Item{1, 1, 0}, Item{mostID, 1, 0}),
			form(-1, Item{n, 1, 0}), form(n, Item{n, 1, 0}), form(-1, Item{1, 1, 0}, Item{n, 1, 0}), form(2, Item{n, 1, 0}, Item{2, 1, 0}))
	}
	for _, w := range weights() {
		l = append(l, form(-1, Item{1, w, 0}), form(1, Item{1, 1, 0}, Item{2, w, 0}, Item{3, 1, 0}), form(-1, Item{1, 20, 0}, Item{2, w, 0}))
	}
	for _, a := range lags() {
		l = append(l, form(-1, Item{1, 1, a}), form(1, Item{1, 2, a}, Item{2, 1, 0}), form(-1, Item{1, 1, -1}, Item{2, 3, a}))
		for _, b := range lags() {
			l = append(l, form(-1, Item{1, 1, a}, Item{2, 20, b}), form(3, Item{1, 7, -3}, Item{2, 1, a}, Item{3, 1, b}))
		}
	}
	return l
}

// small are all forms with up to three items, whose numbers are about those
// that matter in small.
func small() []Form {
	var items []Item
	for id := -1; id <= 2; id++ {
		for w := range 2 {
			for lag := int64(-1); lag <= 1; lag++ {
				items = append(items, Item{id, w, lag})
			}
		}
	}
	lists := [][]Item{nil}
	for from, n := 0, 0; n < 3; n++ {
		end := len(lists)
		for _, l := range lists[from:end] {
			for _, x := range items {
				lists = append(lists, append(slices.Clip(l), x))
			}
		}
		from = end
	}
	var forms []Form
	for _, l := range lists {
		for cur := -2; cur <= 2; cur++ {
			forms = append(forms, form(cur, l...))
		}
	}
	return forms
}

func TestGood(t *testing.T) {
	for _, f := range append(edges(), small()...) {
		if Good(f) != good(f) {
			t.Errorf("P10.1: Good(%s) = %t", text(f), Good(f))
		}
	}
}

// TestGoodOneByOne holds each point of the chapter by a pair of forms, of
// which the first is valid and the second is not.
func TestGoodOneByOne(t *testing.T) {
	for _, c := range []struct {
		why          string
		right, wrong Form
	}{
		{"least ID", form(-1, Item{0, 1, 0}), form(-1, Item{-1, 1, 0})},
		{"greatest ID", form(-1, Item{mostID, 1, 0}), form(-1, Item{mostID + 1, 1, 0})},
		{"equal IDs", form(-1, Item{4, 1, 0}, Item{5, 1, 0}), form(-1, Item{5, 1, 0}, Item{5, 1, 0})},
		{"order", form(-1, Item{4, 1, 0}, Item{5, 1, 0}), form(-1, Item{5, 1, 0}, Item{4, 1, 0})},
		{"least weight", form(-1, Item{1, 1, 0}), form(-1, Item{1, 0, 0})},
		{"greatest weight", form(-1, Item{1, 20, 0}), form(-1, Item{1, 21, 0})},
		{"greatest Lag", form(-1, Item{1, 1, most}), form(-1, Item{1, 1, most + 1})},
		{"least Lag", form(-1, Item{1, 1, 0}, Item{2, 1, -most}), form(-1, Item{1, 1, 0}, Item{2, 1, -most - 1})},
		{"number of items", run(-1, 64), run(-1, 65)},
		{"nobody runs", form(-1, Item{1, 1, 0}), form(-2, Item{1, 1, 0})},
		{"one runs", form(1, Item{1, 1, 0}), form(0, Item{1, 1, 0})},
		{"none to run", form(-1), form(0)},
		{"front of one", form(-1, Item{1, 1, 0}), form(-1, Item{1, 1, -1})},
		{"front of two", form(-1, Item{1, 1, -most}, Item{2, 1, 0}), form(-1, Item{1, 1, -most}, Item{2, 1, -1})},
	} {
		if !Good(c.right) || Good(c.wrong) {
			t.Errorf("P10.1: %s: Good: %t, %t, want true, false", c.why, Good(c.right), Good(c.wrong))
		}
	}
}

func TestSame(t *testing.T) {
	a, b := append(edges(), Form{L: []Item{}}), append(edges(), Form{})
	for _, x := range a {
		for _, y := range b {
			if Same(x, y) != equal(x, y) {
				t.Errorf("P10.1: Same(%s, %s) = %t", text(x), text(y), Same(x, y))
			}
		}
	}
	x := Item{1, 2, 3}
	for _, y := range []Item{{2, 2, 3}, {1, 3, 3}, {1, 2, 4}, {1, 2, -3}, {1 + 1<<32, 2, 3}, {1, 2 + 1<<32, 3}, {1, 2, 3 + 1<<32}} {
		if Same(form(1, x), form(1, y)) || Same(form(1, y), form(1, x)) || Same(form(1, x, x, y), form(1, x, x, x)) {
			t.Errorf("P10.1: Same takes %v for %v", y, x)
		}
		if !Same(form(1, x, y), form(1, x, y)) || Same(form(1, x, y), form(1, y, x)) || Same(form(1, x, y), form(1, x)) {
			t.Errorf("P10.1: Same of the items %v, %v", x, y)
		}
	}
}

func TestFind(t *testing.T) {
	for _, f := range append(edges(), form(0, Item{2, 1, 7}, Item{5, 2, 8}, Item{2, 3, 9}, Item{-1, 4, 0}, Item{5, 0, 0})) {
		for _, id := range numbers() {
			want, found := Item{}, false
			for _, x := range slices.Backward(f.L) {
				if x.ID == id {
					want, found = x, true
				}
			}
			if got, ok := Find(f, id); got != want || ok != found {
				t.Errorf("P10.1: Find(%s, %d): %v, %t, want %v, %t", text(f), id, got, ok, want, found)
			}
		}
	}
}

// news are items to be put in, of all kinds.
func news() []Item {
	l := []Item{{5, 20, 0}, {15, 3, -4}, {645, 1, most}, {10, 1, 1}, {10, 0, 0}, {640, 21, 0}, {low, low, low}, {top, top, top}}
	for _, n := range numbers() {
		l = append(l, Item{n, 1, 0}, Item{n, 5, -1}, Item{n, 0, 0})
	}
	for _, w := range weights() {
		l = append(l, Item{4, w, 1})
	}
	for _, lag := range lags() {
		l = append(l, Item{0, 20, lag}, Item{1, 20, lag}, Item{4, 3, lag})
	}
	return l
}

func TestPut(t *testing.T) {
	for _, f := range edges() {
		was := text(f)
		for _, x := range news() {
			want, err := put(f, x)
			got, e := Put(f, x)
			if !equal(got, want) || e != err {
				t.Errorf("P10.1: Put(%s, %v): %s, %d, want %s, %d", was, x, text(got), e, text(want), err)
			}
			if e == api.OK && !Good(got) {
				t.Errorf("P10.1: Put(%s, %v) is not valid", was, x)
			}
		}
		if text(f) != was {
			t.Errorf("R4: Put makes %s of %s", text(f), was)
		}
	}
}

// TestPutErrors: which error comes ahead of which, and that nothing stands
// beside one.
func TestPutErrors(t *testing.T) {
	a := form(3, Item{1, 2, 0}, Item{3, 1, -5})
	for _, c := range []struct {
		f    Form
		x    Item
		want api.Errno
	}{
		{form(0), Item{0, 1, 0}, api.EARG}, {form(9), Item{9, 1, 0}, api.EARG},
		{form(-1, Item{1, 1, -1}), Item{1, 1, 0}, api.EARG}, {form(-1, Item{1, 1, -1}), Item{2, 1, 0}, api.EARG},
		{form(2, Item{1, 1, 0}), Item{2, 1, 0}, api.EARG}, {form(-1, Item{2, 1, 0}, Item{1, 1, 0}), Item{1, 1, 0}, api.EARG},
		{run(-1, 65), Item{10, 1, 0}, api.EARG}, {run(-1, 65), Item{5, 1, 0}, api.EARG},
		{a, Item{1, 2, 0}, api.ESTATE}, {a, Item{3, 0, most + 1}, api.ESTATE}, {a, Item{1, -1, low}, api.ESTATE}, {run(-1, 64), Item{640, 1, 0}, api.ESTATE},
		{a, Item{-1, 1, 0}, api.EARG}, {a, Item{mostID + 1, 1, 0}, api.EARG}, {a, Item{2, 0, 0}, api.EARG}, {a, Item{2, 21, 0}, api.EARG},
		{a, Item{2, 1, most + 1}, api.EARG}, {a, Item{2, 1, -most - 1}, api.EARG}, {form(-1), Item{1, 1, -1}, api.EARG},
		{run(-1, 64), Item{5, 1, 0}, api.EARG}, {run(-1, 64), Item{645, 1, 0}, api.EARG},
	} {
		if got, e := Put(c.f, c.x); e != c.want || got.Cur != 0 || len(got.L) != 0 {
			t.Errorf("P10.1: Put(%s, %v): %s, %d, want error %d", text(c.f), c.x, text(got), e, c.want)
		}
	}
	if got, e := Put(run(-1, 63), Item{5, 1, 0}); e != api.OK || len(got.L) != 64 {
		t.Errorf("P10.1: Put of item 64: %d, and %d items", e, len(got.L))
	}
}

func TestDrop(t *testing.T) {
	for _, f := range edges() {
		was := text(f)
		for _, id := range append(numbers(), 4, 9, 10, 11, 20, 320, 630, 640, 650) {
			want, err := drop(f, id)
			got, e := Drop(f, id)
			if !equal(got, want) || e != err {
				t.Errorf("P10.1: Drop(%s, %d): %s, %d, want %s, %d", was, id, text(got), e, text(want), err)
			}
		}
		if text(f) != was {
			t.Errorf("R4: Drop makes %s of %s", text(f), was)
		}
	}
}

// TestDropCases: what is left may be a form that is not valid, and nothing
// stands beside an error.
func TestDropCases(t *testing.T) {
	a := form(3, Item{1, 2, 0}, Item{3, 1, -5})
	for _, c := range []struct {
		f    Form
		id   int
		want string
		e    api.Errno
	}{
		{a, 3, "-1: 1/2/0", api.OK}, {a, 1, "3: 3/1/-5", api.OK}, {form(1, a.L...), 1, "-1: 3/1/-5", api.OK},
		{form(0, Item{0, 1, 0}), 0, "-1:", api.OK}, {form(-1, Item{0, 1, 0}), 0, "-1:", api.OK},
		{a, 2, "0:", api.EID}, {a, -1, "0:", api.EID}, {form(-1), -1, "0:", api.EID}, {form(-1), 0, "0:", api.EID}, {form(-1, a.L...), -1, "0:", api.EID},
		{form(2, a.L...), 1, "0:", api.EARG}, {form(2, a.L...), 2, "0:", api.EARG}, {form(0), 0, "0:", api.EARG},
		{form(-1, Item{1, 1, -1}), 1, "0:", api.EARG}, {form(-1, Item{-1, 1, 0}), -1, "0:", api.EARG},
		{run(-1, 65), 10, "0:", api.EARG}, {run(-1, 65), 11, "0:", api.EARG},
	} {
		if got, e := Drop(c.f, c.id); Text(got) != c.want || e != c.e {
			t.Errorf("P10.1: Drop(%s, %d): %s, %d, want %s, %d", text(c.f), c.id, text(got), e, c.want, c.e)
		}
	}
}

func TestFrontAndSum(t *testing.T) {
	forms := append(edges(), small()...)
	forms = append(forms,
		form(-1, Item{9, 1, 4}, Item{2, 3, 4}, Item{2, 5, 4}, Item{3, 1, 4}),
		form(-1, Item{2, 7, 4}, Item{-5, 1, 3}, Item{2, 3, 4}),
		form(-1, Item{low, 1, top}, Item{top, 1, top}, Item{0, 1, low}), form(-1, Item{top, 1, low}, Item{low, 1, low}),
		form(0, Item{1, top, top}, Item{2, low, low}, Item{3, top, low}, Item{4, -1, low}, Item{5, 3, top}))
	for _, f := range forms {
		want, some := front(f)
		if got, ok := Front(f); got != want || ok != some {
			t.Errorf("P10.1: Front(%s): %v, %t, want %v, %t", text(f), got, ok, want, some)
		}
		if got := Sum(f); got != sum(f) {
			t.Errorf("P10.1: Sum(%s): %d, want %d", text(f), got, sum(f))
		}
	}
}

// TestFrontOfEqual: the weight has no say, only the place.
func TestFrontOfEqual(t *testing.T) {
	for _, c := range []struct {
		f    Form
		want Item
	}{
		{form(3, Item{1, 1, 4}, Item{3, 20, 4}), Item{1, 1, 4}}, {form(1, Item{3, 20, 4}, Item{1, 1, 4}), Item{1, 1, 4}},
		{form(1, Item{1, 5, 4}, Item{1, 9, 4}), Item{1, 5, 4}}, {form(1, Item{1, 9, 4}, Item{1, 5, 4}, Item{1, 1, 4}), Item{1, 9, 4}},
		{form(1, Item{2, 1, 4}, Item{1, 9, 4}, Item{1, 5, 4}), Item{1, 9, 4}}, {form(1, Item{1, 1, -2}, Item{2, 1, -1}, Item{3, 1, -3}), Item{2, 1, -1}},
	} {
		if got, ok := Front(c.f); got != c.want || !ok {
			t.Errorf("P10.1: Front(%s): %v, %t, want %v", text(c.f), got, ok, c.want)
		}
	}
}

func TestText(t *testing.T) {
	for _, f := range append(edges(), form(low, Item{low, low, low}, Item{top, top, top}), form(top), form(-10, Item{-1, -2, -3}, Item{-1, -2, -3})) {
		if got := Text(f); got != text(f) {
			t.Errorf("P10.1: Text: %q, want %q", got, text(f))
		}
	}
	if got := Text(form(3, Item{1, 2, 0}, Item{3, 1, -5})); got != "3: 1/2/0 3/1/-5" {
		t.Errorf("P10.1: Text: %q", got)
	}
	if got := Text(form(-1)); got != "-1:" {
		t.Errorf("P10.1: Text of no items: %q", got)
	}
}

// TestOwnMemory writes into all that a result has, and behind what is handed
// in: neither has anything to do with the other.
func TestOwnMemory(t *testing.T) {
	for n := range 20 {
		room := append(run(-1, n).L, Item{7, 7, 7}, Item{8, 8, 8})
		was := slices.Clone(room)
		f := form(-1, room[:n]...)
		var results []Form
		for _, id := range []int{5, 15, 10*n + 5} {
			got, _ := Put(f, Item{id, 1, 0})
			results = append(results, got)
		}
		for _, id := range []int{10, 10 * n} {
			got, _ := Drop(f, id)
			results = append(results, got)
		}
		if !slices.Equal(room, was) {
			t.Fatalf("R4: what was handed in: %v, want %v", room, was)
		}
		for i, x := range results {
			for j := range x.L[:cap(x.L)] {
				x.L[:cap(x.L)][j] = Item{-1 - i, 0, 0}
			}
		}
		for i, x := range results {
			if slices.ContainsFunc(x.L[:cap(x.L)], func(y Item) bool { return y.ID != -1-i }) {
				t.Errorf("R4: result %d of %d items shares memory with another", i, n)
			}
		}
		if !slices.Equal(room, was) {
			t.Errorf("R4: after a change of the results: %v, want %v", room, was)
		}
	}
}

// TestPlay puts in and drops without order, and holds the forms against those
// of the plain lists.
func TestPlay(t *testing.T) {
	c := chance(10)
	f, plain := form(-1), form(-1)
	for n := range 20000 {
		var e, err api.Errno
		next, want := f, plain
		if id := c.below(90); c.below(5) < 3 {
			x := Item{id, c.below(20) + 1, int64(c.below(7) - 3)}
			next, e = Put(f, x)
			want, err = put(plain, x)
		} else {
			next, e = Drop(f, id)
			want, err = drop(plain, id)
		}
		if !equal(next, want) || e != err {
			t.Fatalf("P10.1: step %d: %s, %d, want %s, %d", n, text(next), e, text(want), err)
		}
		if e == api.OK && Good(next) {
			f, plain = next, want
		}
		if len(f.L) > 0 && c.below(4) == 0 {
			f.Cur = f.L[c.below(len(f.L))].ID
			plain.Cur = f.Cur
		}
		first, some := front(plain)
		if got, ok := Front(f); got != first || ok != some || Sum(f) != sum(plain) || !Same(f, plain) || Text(f) != text(plain) {
			t.Fatalf("P10.1: step %d: %s, front %v, sum %d", n, Text(f), got, Sum(f))
		}
	}
}
