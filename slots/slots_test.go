package slots

import (
	"math"
	"slices"
	"testing"

	"stadholder/api"
)

const (
	top = math.MaxInt
	low = math.MinInt
)

// chance is a fixed sequence of numbers, from 0 on.
type chance uint64

func (c *chance) next(n int) int {
	*c = *c*6364136223846793005 + 1442695040888963407
	x := uint64(*c)
	x ^= x >> 29
	return int((x >> 8) % uint64(n))
}

// model is all names that were ever assigned, and those that still are, as
// plain lists that are searched from end to end.
type model struct {
	most        int
	ever, still []int
}

// named are the names of a list that belong to a slot.
func named(l []int, place int) []int {
	var some []int
	for _, id := range l {
		if id%64 == place {
			some = append(some, id)
		}
	}
	return some
}

func (m *model) take() (int, api.Errno) {
	for place := range m.most {
		if len(named(m.still, place)) == 0 {
			id := place + 64*len(named(m.ever, place))
			m.ever = append(m.ever, id)
			m.still = append(m.still, id)
			return id, api.OK
		}
	}
	return 0, api.EFULL
}

func (m *model) free(id int) api.Errno {
	at := slices.Index(m.still, id)
	if at < 0 {
		return api.EID
	}
	m.still = slices.Delete(m.still, at, at+1)
	return api.OK
}

// list is in the order of the slots, not of the names.
func (m *model) list() []int {
	var l []int
	for place := range m.most {
		l = append(l, named(m.still, place)...)
	}
	return l
}

// same holds all that slots tell without a change against a list.
func same(t *testing.T, s *Slots, want ...int) {
	t.Helper()
	if got := slices.Collect(s.All()); !slices.Equal(got, want) {
		t.Fatalf("P6.1: All: %d, want %d", got, want)
	}
	if got := s.List(); !slices.Equal(got, want) {
		t.Fatalf("P6.1: List: %d, want %d", got, want)
	}
	if got := s.Len(); got != len(want) {
		t.Fatalf("P6.1: Len: %d, want %d", got, len(want))
	}
	for _, id := range want {
		if !s.Has(id) {
			t.Fatalf("P6.1: Has(%d) is false, and %d are assigned", id, want)
		}
	}
	for _, id := range strange(want) {
		if s.Has(id) {
			t.Fatalf("P6.1: Has(%d) is true, and %d are assigned", id, want)
		}
	}
}

// strange are names that a list does not have, but near those that it has: of
// the same slot, of another one, and with the same low bits.
func strange(l []int) []int {
	all := []int{low, low + 1, low + 64, -129, -128, -65, -64, -63, -2, -1, 0, 1, 63, 64, 65, 127, 128, top - 64, top - 63, top}
	for _, id := range l {
		all = append(all, -id, ^id, id-64, id+64, id-1, id+1, id+1<<32, id-1<<32, id|low)
	}
	return slices.DeleteFunc(all, func(id int) bool { return slices.Contains(l, id) })
}

func take(t *testing.T, s *Slots, want ...int) {
	t.Helper()
	for _, id := range want {
		if got, e := s.Take(); got != id || e != api.OK {
			t.Fatalf("P6.1: Take: %d, %d, want %d", got, e, id)
		}
	}
}

func free(t *testing.T, s *Slots, ids ...int) {
	t.Helper()
	for _, id := range ids {
		if e := s.Free(id); e != api.OK {
			t.Fatalf("P6.1: Free(%d): %d", id, e)
		}
	}
}

func TestExample(t *testing.T) {
	s := New(2)
	take(t, s, 0, 1)
	free(t, s, 0)
	take(t, s, 64)
	same(t, s, 64, 1)
}

func TestRoom(t *testing.T) {
	for _, c := range []struct{ most, want int }{
		{low, 1}, {low + 5, 1}, {-64, 1}, {-1, 1}, {0, 1}, {1, 1}, {2, 2}, {3, 3}, {17, 17}, {62, 62}, {63, 63},
		{64, 64}, {65, 64}, {66, 64}, {128, 64}, {256 + 7, 64}, {1 << 16, 64}, {1<<32 + 7, 64}, {1 << 32, 64}, {top, 64},
	} {
		s := New(c.most)
		same(t, s)
		for place := range c.want {
			take(t, s, place)
		}
		full := s.List()
		for range 3 {
			if id, e := s.Take(); id != 0 || e != api.EFULL {
				t.Errorf("P6.1: New(%d), full: Take: %d, %d", c.most, id, e)
			}
		}
		same(t, s, full...)
		if len(full) != c.want {
			t.Errorf("P6.1: New(%d) has room for %d, want %d", c.most, len(full), c.want)
		}
		last := c.want - 1
		for turn := range 5 {
			free(t, s, last+64*turn)
			take(t, s, last+64*(turn+1))
		}
		full[last] += 64 * 5
		same(t, s, full...)
		if id, e := s.Take(); id != 0 || e != api.EFULL {
			t.Errorf("P6.1: New(%d), full again: Take: %d, %d", c.most, id, e)
		}
	}
}

// TestFreeSlotWithTheLeastNumber: neither the slot that was freed last, nor
// the one that was freed first, nor the one with the least name.
func TestFreeSlotWithTheLeastNumber(t *testing.T) {
	s := New(5)
	take(t, s, 0, 1, 2, 3, 4)
	free(t, s, 3, 1, 4)
	same(t, s, 0, 2)
	take(t, s, 65, 67)
	same(t, s, 0, 65, 2, 67)
	free(t, s, 65)
	take(t, s, 129)
	same(t, s, 0, 129, 2, 67)
	take(t, s, 68)
	free(t, s, 0)
	take(t, s, 64)
	same(t, s, 64, 129, 2, 67, 68)
	// Slot 1 has had three turns and slot 2 one: a greater name, and first.
	free(t, s, 2, 129)
	take(t, s, 193, 66)
	same(t, s, 64, 193, 66, 67, 68)
}

// TestTurnsOfEachSlot: a slot counts its own turns, also while all are free.
func TestTurnsOfEachSlot(t *testing.T) {
	s := New(3)
	for turn := range 1000 {
		same(t, s)
		take(t, s, 64*turn)
		same(t, s, 64*turn)
		free(t, s, 64*turn)
	}
	take(t, s, 64000, 1, 2)
	free(t, s, 2, 64000, 1)
	same(t, s)
	take(t, s, 64064, 65, 66)
	same(t, s, 64064, 65, 66)
}

// TestNoNameTwice goes through many turns of all slots, and through the names
// of all turns before.
func TestNoNameTwice(t *testing.T) {
	s := New(64)
	var gone []int
	for turn := range 30 {
		for place := range 64 {
			take(t, s, place+64*turn)
		}
		for _, id := range gone {
			if s.Has(id) || s.Free(id) != api.EID {
				t.Fatalf("P6.1: name %d is there again in turn %d", id, turn)
			}
		}
		l := s.List()
		free(t, s, l...)
		gone = append(gone, l...)
	}
}

func TestWrongCallsChangeNothing(t *testing.T) {
	s := New(4)
	for _, id := range append(strange([]int{0, 1, 2, 3}), 0, 1, 2, 3) {
		if e := s.Free(id); e != api.EID {
			t.Errorf("P6.1: Free(%d) of new slots: %d", id, e)
		}
	}
	same(t, s)
	take(t, s, 0, 1, 2, 3)
	free(t, s, 1, 3)
	take(t, s, 65)
	want := []int{0, 65, 2}
	// Freed ones, ones that come next, ones behind most, and none at all.
	wrong := append(strange(want), 1, 3, 67, 129, 4, 5, 63, 68, 127, 4+64*7)
	for range 2 {
		for _, id := range wrong {
			if e := s.Free(id); e != api.EID {
				t.Errorf("P6.1: Free(%d): %d, and %d are assigned", id, e, want)
			}
			same(t, s, want...)
		}
	}
	// Nor was a turn counted.
	take(t, s, 67)
	if id, e := s.Take(); id != 0 || e != api.EFULL {
		t.Errorf("P6.1: Take of full slots: %d, %d", id, e)
	}
	same(t, s, 0, 65, 2, 67)
	free(t, s, 0, 65, 2, 67)
	take(t, s, 64, 129, 66, 131)
}

// TestPlays holds long plays against the model, in sets of several sizes.
func TestPlays(t *testing.T) {
	for _, p := range []struct{ most, turns int }{{1, 300}, {2, 400}, {3, 600}, {10, 800}, {63, 1500}, {64, 1500}} {
		var c chance
		s, m := New(p.most), &model{most: p.most}
		for n := range p.turns {
			// More is taken than freed, until it is full; later the same.
			if c.next(5) < 3 {
				id, e := s.Take()
				if want, e2 := m.take(); id != want || e != e2 {
					t.Fatalf("P6.1: turn %d: Take: %d, %d, want %d, %d", n, id, e, want, e2)
				}
			} else {
				id := c.next(p.most) + 64*c.next(3)
				if l := m.list(); len(l) > 0 && c.next(4) > 0 {
					id = l[c.next(len(l))]
				}
				if e, want := s.Free(id), m.free(id); e != want {
					t.Fatalf("P6.1: turn %d: Free(%d): %d, want %d", n, id, e, want)
				}
			}
			same(t, s, m.list()...)
		}
		if all := slices.Compact(slices.Sorted(slices.Values(m.ever))); len(all) != len(m.ever) {
			t.Fatalf("P6.1: %d names in %d calls of Take", len(all), len(m.ever))
		}
	}
}

// four has slots of several turns, the first of which has the greatest name.
func four(t *testing.T) *Slots {
	t.Helper()
	s := New(6)
	take(t, s, 0, 1, 2, 3, 4)
	free(t, s, 0)
	take(t, s, 64)
	free(t, s, 64, 3)
	take(t, s, 128)
	free(t, s, 2)
	take(t, s, 66)
	same(t, s, fourNames()...)
	return s
}

func fourNames() []int { return []int{128, 1, 66, 4} }

func TestIteratorStopsAndStartsAgain(t *testing.T) {
	want := fourNames()
	s := four(t)
	all := s.All()
	for n := range want {
		var got []int
		for id := range all {
			got = append(got, id)
			if len(got) == n+1 {
				break
			}
		}
		if !slices.Equal(got, want[:n+1]) {
			t.Errorf("P6.1: All stopped at %d: %d, want %d", n, got, want[:n+1])
		}
		if got := slices.Collect(all); !slices.Equal(got, want) {
			t.Errorf("P6.1: All started again: %d, want %d", got, want)
		}
	}
	for outer := range all {
		if got := slices.Collect(all); !slices.Equal(got, want) {
			t.Errorf("P6.1: All within itself at %d: %d, want %d", outer, got, want)
		}
	}
	for id := range New(3).All() {
		t.Errorf("P6.1: All of new slots yields %d", id)
	}
}

func freeAll(s *Slots) {
	for _, id := range s.List() {
		s.Free(id)
	}
}

// TestIteratorKeepsItsNames: each change meets an iteration at each of its
// names, and the iteration goes on as if there had been none.
func TestIteratorKeepsItsNames(t *testing.T) {
	for name, change := range map[string]func(s *Slots, id int){
		"Free of the name":            func(s *Slots, id int) { s.Free(id) },
		"Free of the name and a Take": func(s *Slots, id int) { s.Free(id); s.Take() },
		"Free of the last":            func(s *Slots, id int) { s.Free(4) },
		"Free of the last and Takes":  func(s *Slots, id int) { s.Free(4); s.Take(); s.Take(); s.Take() },
		"Free of all":                 func(s *Slots, id int) { freeAll(s) },
		"Free of all and a Take":      func(s *Slots, id int) { freeAll(s); s.Take() },
		"a Take":                      func(s *Slots, id int) { s.Take() },
		"Takes until it is full":      func(s *Slots, id int) { s.Take(); s.Take(); s.Take() },
	} {
		for at, from := range fourNames() {
			s := four(t)
			var got []int
			for id := range s.All() {
				if id == from {
					change(s, id)
				}
				got = append(got, id)
			}
			if !slices.Equal(got, fourNames()) {
				t.Errorf("P6.1: All, with %s at number %d: %d, want %d", name, at, got, fourNames())
			}
		}
	}
	s := four(t)
	for id := range s.All() {
		free(t, s, id)
	}
	same(t, s)
	take(t, s, 192, 65, 130, 67, 68, 5)
}

// TestIterationStartsLate: what counts is the start of the iteration, not the
// call that made the iterator.
func TestIterationStartsLate(t *testing.T) {
	s := New(5)
	all := s.All()
	for place := range 5 {
		take(t, s, place)
		if got := slices.Collect(all); !slices.Equal(got, s.List()) || len(got) != place+1 {
			t.Errorf("P6.1: All made ahead: %d, want %d", got, s.List())
		}
	}
	freeAll(s)
	if got := slices.Collect(all); len(got) != 0 {
		t.Errorf("P6.1: All made ahead, of free slots: %d", got)
	}
}

func TestPlace(t *testing.T) {
	for _, c := range []struct{ id, place, turn int }{
		{0, 0, 0}, {1, 1, 0}, {62, 62, 0}, {63, 63, 0}, {64, 0, 1}, {65, 1, 1}, {127, 63, 1}, {128, 0, 2}, {193, 1, 3},
		{6400, 0, 100}, {1 << 32, 0, 1 << 26}, {1<<32 + 3, 3, 1 << 26}, {top, 63, top / 64}, {top - 63, 0, top / 64}, {top - 64, 63, top/64 - 1},
		{-1, -1, -1}, {-2, -1, -1}, {-63, -1, -1}, {-64, -1, -1}, {-65, -1, -1}, {-1 << 32, -1, -1}, {low + 1, -1, -1}, {low, -1, -1},
	} {
		if place, turn := Place(c.id); place != c.place || turn != c.turn {
			t.Errorf("P6.1: Place(%d): %d, %d, want %d, %d", c.id, place, turn, c.place, c.turn)
		}
	}
	for turn := range 70 {
		for place := range 64 {
			if p, n := Place(place + 64*turn); p != place || n != turn {
				t.Fatalf("P6.1: Place(%d): %d, %d, want %d, %d", place+64*turn, p, n, place, turn)
			}
		}
	}
}

func TestResultsAreNewMemory(t *testing.T) {
	s, want := four(t), fourNames()
	first, second := s.List(), s.List()
	for i := range second[:cap(second)] {
		second[:cap(second)][i] = -1
	}
	if !slices.Equal(first, want) {
		t.Errorf("R4: two results share memory: %d, want %d", first, want)
	}
	same(t, s, want...)
	free(t, s, 1)
	take(t, s, 65)
	if !slices.Equal(first, want) {
		t.Errorf("R4: List follows the slots: %d, want %d", first, want)
	}
}

func TestSetsStandAlone(t *testing.T) {
	a, b := four(t), New(2)
	take(t, b, 0, 1)
	free(t, b, 1)
	free(t, a, 128)
	same(t, a, 1, 66, 4)
	same(t, b, 0)
	take(t, a, 192)
	take(t, b, 65)
	same(t, New(64))
}
