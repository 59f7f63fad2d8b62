package mask

import (
	"iter"
	"math"
	"slices"
	"strconv"
	"strings"
	"testing"
)

const (
	top = math.MaxInt
	low = math.MinInt
)

// cores are numbers in and around what a mask holds, some of which have the
// low bits of one that it holds.
func cores() []int {
	l := []int{low, low + 3, -1 << 32, -65536, -16, -15, -2}
	for c := -1; c <= 18; c++ {
		l = append(l, c)
	}
	return append(l, 31, 32, 63, 64, 65, 256, 259, 65536, 65539, 1<<32, 1<<32+3, top-1, top)
}

// plain is the set of a mask as a list, rising, by division alone.
func plain(m Mask) []int {
	var l []int
	rest := int(m)
	for c := range 16 {
		if rest%2 == 1 {
			l = append(l, c)
		}
		rest /= 2
	}
	return l
}

// plainFrom goes round over all sixteen from a core on.
func plainFrom(m Mask, c int) []int {
	c = max(c, 0)
	c = min(c, 15)
	var l []int
	for n := range 16 {
		if x := (c + n) % 16; slices.Contains(plain(m), x) {
			l = append(l, x)
		}
	}
	return l
}

func plainText(l []int) string {
	if len(l) == 0 {
		return "-"
	}
	text := ""
	for _, c := range l {
		text += "," + strconv.Itoa(c)
	}
	return strings.TrimPrefix(text, ",")
}

// seconds are the elements of From; a position that is out of turn ends them.
func seconds(t *testing.T, s iter.Seq2[int, int]) []int {
	t.Helper()
	var l []int
	for at, c := range s {
		if at != len(l) {
			t.Fatalf("P3.1: From yields position %d for element number %d", at, len(l))
		}
		l = append(l, c)
	}
	return l
}

func TestOf(t *testing.T) {
	for _, c := range []struct {
		l    []int
		want Mask
	}{
		{nil, 0},
		{[]int{}, 0},
		{[]int{0}, 1},
		{[]int{15}, 0x8000},
		{[]int{0, 2}, 5},
		{[]int{2, 0}, 5},
		{[]int{7, 7, 7}, 128},
		{[]int{3, 1, 3, 1}, 10},
		{[]int{15, 14, 13, 12, 11, 10, 9, 8, 7, 6, 5, 4, 3, 2, 1, 0}, 0xffff},
		{[]int{-1}, 0},
		{[]int{16}, 0},
		{[]int{-1, 4, 16}, 16},
		{[]int{low, low + 3, 5, top, top - 1}, 32},
		{[]int{1<<32 + 1, 1<<16 + 1, 256 + 1, 64 + 1, 32 + 1, 16 + 1, 1 - 16}, 0},
		{slices.Repeat([]int{-1, 3, 16, 9}, 1000), 520},
	} {
		if got := Of(c.l...); got != c.want {
			t.Errorf("P3.1: Of(%d) = %#x, want %#x", c.l, got, c.want)
		}
	}
	for _, c := range cores() {
		want := Mask(0)
		if c >= 0 && c <= 15 {
			want = 1 << c
		}
		if got := Of(c); got != want {
			t.Errorf("P3.1: Of(%d) = %#x, want %#x", c, got, want)
		}
	}
}

func TestGood(t *testing.T) {
	for _, c := range []struct {
		m     Mask
		cores int
		want  bool
	}{
		{0, 1, false},
		{0, 16, false},
		{0, 0, false},
		{1, 1, true},
		{1, 0, false},
		{1, -1, false},
		{1, 16, true},
		{1, 17, false},
		{1, 1<<32 + 1, false},
		{1, low, false},
		{1, top, false},
		{2, 1, false},
		{2, 2, true},
		{3, 1, false},
		{0x8000, 15, false},
		{0x8000, 16, true},
		{0x8000, 17, false},
		{0x8001, 15, false},
		{0xffff, 15, false},
		{0xffff, 16, true},
		{0x7fff, 15, true},
		{0x7fff, 14, false},
	} {
		if got := Good(c.m, c.cores); got != c.want {
			t.Errorf("P3.1: Good(%#x, %d) = %v, want %v", c.m, c.cores, got, c.want)
		}
	}
}

// TestEveryMask holds each of the 65536 masks against a plain list.
func TestEveryMask(t *testing.T) {
	for n := range 1 << 16 {
		m := Mask(n)
		want := plain(m)
		if got := slices.Collect(m.All()); !slices.Equal(got, want) {
			t.Fatalf("P3.1: All of %#x: %d, want %d", m, got, want)
		}
		if got := m.List(); !slices.Equal(got, want) {
			t.Fatalf("P3.1: List of %#x: %d, want %d", m, got, want)
		}
		if got := m.Len(); got != len(want) {
			t.Fatalf("P3.1: Len of %#x: %d, want %d", m, got, len(want))
		}
		if got := m.Text(); got != plainText(want) {
			t.Fatalf("P3.1: Text of %#x: %q, want %q", m, got, plainText(want))
		}
		if got := Of(want...); got != m {
			t.Fatalf("P3.1: Of(%d) = %#x, want %#x", want, got, m)
		}
		for count := -1; count <= 18; count++ {
			good := count >= 1 && count <= 16 && len(want) > 0 && want[len(want)-1] < count
			if got := Good(m, count); got != good {
				t.Fatalf("P3.1: Good(%#x, %d) = %v", m, count, got)
			}
		}
		slices.Reverse(want)
		if got := slices.Collect(m.Back()); !slices.Equal(got, want) {
			t.Fatalf("P3.1: Back of %#x: %d, want %d", m, got, want)
		}
	}
}

func TestHasAndFrom(t *testing.T) {
	for n := 0; n < 1<<16; n += 97 {
		for _, m := range []Mask{Mask(n), ^Mask(n)} {
			for _, c := range cores() {
				if got := m.Has(c); got != slices.Contains(plain(m), c) {
					t.Fatalf("P3.1: Has(%d) of %#x = %v", c, m, got)
				}
				want := plainFrom(m, c)
				if got := seconds(t, m.From(c)); !slices.Equal(got, want) {
					t.Fatalf("P3.1: From(%d) of %#x: %d, want %d", c, m, got, want)
				}
				if got := m.Around(c); !slices.Equal(got, want) {
					t.Fatalf("P3.1: Around(%d) of %#x: %d, want %d", c, m, got, want)
				}
			}
		}
	}
}

func TestByHand(t *testing.T) {
	if got := seconds(t, Of(0, 2).From(1)); !slices.Equal(got, []int{2, 0}) {
		t.Errorf("P3.1: Of(0, 2).From(1): %d, want 2, 0", got)
	}
	m := Of(0, 5, 15)
	for _, c := range []struct {
		from int
		want []int
	}{
		{low, []int{0, 5, 15}},
		{-1, []int{0, 5, 15}},
		{0, []int{0, 5, 15}},
		{1, []int{5, 15, 0}},
		{5, []int{5, 15, 0}},
		{6, []int{15, 0, 5}},
		{15, []int{15, 0, 5}},
		{16, []int{15, 0, 5}},
		{17, []int{15, 0, 5}},
		{top, []int{15, 0, 5}},
	} {
		if got := m.Around(c.from); !slices.Equal(got, c.want) {
			t.Errorf("P3.1: Around(%d): %d, want %d", c.from, got, c.want)
		}
	}
	// Clamped, 16 is 15, which isn't in it: the lesser ones follow.
	if got := Of(3, 7).Around(16); !slices.Equal(got, []int{3, 7}) {
		t.Errorf("P3.1: Around(16): %d, want 3, 7", got)
	}
	for _, c := range []struct {
		m    Mask
		want string
	}{{0, "-"}, {1, "0"}, {0x8000, "15"}, {0x8401, "0,10,15"}, {6, "1,2"}} {
		if got := c.m.Text(); got != c.want {
			t.Errorf("P3.1: Text of %#x: %q, want %q", c.m, got, c.want)
		}
	}
	if got := Mask(0).Around(3); len(got) != 0 {
		t.Errorf("P3.1: Around of none: %d", got)
	}
}

// head takes n elements and stops; a range panics if more are yielded then.
func head(s iter.Seq[int], n int) []int {
	var l []int
	for c := range s {
		l = append(l, c)
		if len(l) == n {
			break
		}
	}
	return l
}

// elements drops the positions, which From's tests look at.
func elements(s iter.Seq2[int, int]) iter.Seq[int] {
	return func(yield func(int) bool) {
		for _, c := range s {
			if !yield(c) {
				return
			}
		}
	}
}

func TestIteratorsStopAndStartAgain(t *testing.T) {
	m := Of(1, 4, 9, 10, 15)
	for _, c := range []struct {
		name string
		s    iter.Seq[int]
		want []int
	}{
		{"All", m.All(), []int{1, 4, 9, 10, 15}},
		{"Back", m.Back(), []int{15, 10, 9, 4, 1}},
		{"From", elements(m.From(5)), []int{9, 10, 15, 1, 4}},
	} {
		for n := 1; n <= len(c.want); n++ {
			if got := head(c.s, n); !slices.Equal(got, c.want[:n]) {
				t.Errorf("P3.1: %s stopped at %d: %d, want %d", c.name, n, got, c.want[:n])
			}
			if got := slices.Collect(c.s); !slices.Equal(got, c.want) {
				t.Errorf("P3.1: %s started again: %d, want %d", c.name, got, c.want)
			}
		}
		for outer := range c.s {
			if got := slices.Collect(c.s); !slices.Equal(got, c.want) {
				t.Errorf("P3.1: %s within itself at %d: %d, want %d", c.name, outer, got, c.want)
			}
		}
	}
}

// TestPositionsStartAgain: a position is counted for each start of From alone.
func TestPositionsStartAgain(t *testing.T) {
	want := []int{9, 10, 15, 1, 4}
	from := Of(1, 4, 9, 10, 15).From(5)
	for last := range want {
		for at := range from {
			if at == last {
				break
			}
		}
		if got := seconds(t, from); !slices.Equal(got, want) {
			t.Errorf("P3.1: From stopped at %d and started again: %d, want %d", last, got, want)
		}
	}
	turn := 0
	for at := range from {
		if got := seconds(t, from); !slices.Equal(got, want) || at != turn {
			t.Errorf("P3.1: From within itself at %d, turn %d: %d, want %d", at, turn, got, want)
		}
		turn++
	}
}

func TestIteratorsKeepTheirMask(t *testing.T) {
	m := Of(2, 3)
	all, back, from := m.All(), m.Back(), m.From(3)
	m |= Of(0, 7)
	if got := slices.Collect(all); !slices.Equal(got, []int{2, 3}) {
		t.Errorf("P3.1: All follows another mask: %d", got)
	}
	if got := slices.Collect(back); !slices.Equal(got, []int{3, 2}) {
		t.Errorf("P3.1: Back follows another mask: %d", got)
	}
	if got := seconds(t, from); !slices.Equal(got, []int{3, 2}) {
		t.Errorf("P3.1: From follows another mask: %d", got)
	}
}

func TestListsAreLeftAlone(t *testing.T) {
	room := []int{3, -1, 16, 77, 78}
	Of(room[:3]...)
	if !slices.Equal(room, []int{3, -1, 16, 77, 78}) {
		t.Errorf("R4: a list was changed: %d", room)
	}
	m := Of(1, 2, 3)
	for _, list := range []func() []int{m.List, func() []int { return m.Around(2) }} {
		first := list()
		kept := slices.Clone(first)
		second := list()
		for i := range second[:cap(second)] {
			second[:cap(second)][i] = -1
		}
		if !slices.Equal(first, kept) {
			t.Errorf("R4: two results share memory: %d", first)
		}
	}
}
