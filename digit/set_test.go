package digit_test

import (
	"math"
	"slices"
	"testing"

	"easement/digit"
)

// every is the set of all digits.
const every = digit.Set(math.MaxUint32)

// odd are numbers that are no digits.
func odd() []int {
	return []int{math.MinInt, math.MinInt + 1, math.MinInt32, -1 << 5, -32, -31, -2, -1, 32, 33, 36, 63, 64, 1 << 31, 1 << 32, 1<<32 + 4, 1<<63 - 32, math.MaxInt - 1, math.MaxInt}
}

// sets are the empty one, that of all digits, each with one digit or without one, and many others.
func sets() []digit.Set {
	l := []digit.Set{0, every, 0xaaaaaaaa, 0x55555555, 0x0000ffff, 0xffff0000, 0x80000001, 0x7ffffffe, 0x0f0f0f0f}
	for i := range 32 {
		one := digit.Set(1) << i
		l = append(l, one, every^one, one-1, every-one)
	}
	for i := range uint32(200) {
		l = append(l, digit.Set(i), digit.Set(i*0x9e3779b9))
	}
	return l
}

// elements holds, for each digit, whether it is in the set, by division alone.
func elements(s digit.Set) [32]bool {
	var l [32]bool
	for i := range l {
		l[i] = s%2 == 1
		s /= 2
	}
	return l
}

// list holds the elements of a set, rising.
func list(s digit.Set) []int {
	var l []int
	for i, in := range elements(s) {
		if in {
			l = append(l, i)
		}
	}
	return l
}

// P5.2: Has, of each digit.
func TestHas(t *testing.T) {
	for _, s := range sets() {
		for i, want := range elements(s) {
			if got := s.Has(i); got != want {
				t.Errorf("%#x: Has(%d) is %t", s, i, got)
			}
		}
	}
	s := digit.Set(1<<0 | 1<<4 | 1<<31)
	for _, i := range []int{0, 4, 31} {
		if !s.Has(i) {
			t.Errorf("%#x has not %d", s, i)
		}
	}
	for _, i := range []int{1, 3, 5, 16, 30} {
		if s.Has(i) {
			t.Errorf("%#x has %d", s, i)
		}
	}
}

// P5.2: what is no digit is in no set.
func TestHasNoDigit(t *testing.T) {
	for _, s := range sets() {
		for _, i := range odd() {
			if s.Has(i) {
				t.Errorf("%#x: Has(%d) is true", s, i)
			}
		}
	}
}

// P5.2: Place, of each digit and of numbers that are none.
func TestPlace(t *testing.T) {
	for _, s := range sets() {
		for _, i := range append(odd(), list(every)...) {
			want := 0
			for _, k := range list(s) {
				if k < i {
					want++
				}
			}
			if got := s.Place(i); got != want {
				t.Errorf("%#x: Place(%d) is %d, want %d", s, i, got, want)
			}
		}
	}
}

// P5.2: Place, of the edges.
func TestPlaceEdges(t *testing.T) {
	for _, c := range []struct {
		s       digit.Set
		i, want int
	}{
		{0, 0, 0}, {0, 31, 0}, {0, 32, 0}, {0, math.MaxInt, 0}, {0, math.MinInt, 0},
		{every, 0, 0}, {every, 1, 1}, {every, 30, 30}, {every, 31, 31}, {every, 32, 32}, {every, 33, 32},
		{every, -1, 0}, {every, math.MinInt, 0}, {every, math.MaxInt, 32}, {every, 1 << 32, 32},
		{1, 0, 0}, {1, 1, 1}, {1 << 31, 31, 0}, {1 << 31, 32, 1}, {1<<4 | 1<<9, 4, 0}, {1<<4 | 1<<9, 9, 1}, {1<<4 | 1<<9, 10, 2},
	} {
		if got := c.s.Place(c.i); got != c.want {
			t.Errorf("%#x: Place(%d) is %d, want %d", c.s, c.i, got, c.want)
		}
	}
}

// P5.2: Len.
func TestLen(t *testing.T) {
	for _, c := range []struct {
		s    digit.Set
		want int
	}{{0, 0}, {1, 1}, {1 << 31, 1}, {3, 2}, {1<<31 | 1, 2}, {0xaaaaaaaa, 16}, {every >> 1, 31}, {every - 1, 31}, {every, 32}} {
		if got := c.s.Len(); got != c.want {
			t.Errorf("%#x: Len is %d, want %d", c.s, got, c.want)
		}
	}
	for _, s := range sets() {
		if got, want := s.Len(), len(list(s)); got != want {
			t.Errorf("%#x: Len is %d, want %d", s, got, want)
		}
	}
}

// lists are those that With and Without are called with.
func lists() [][]int {
	return [][]int{
		nil, {}, {0}, {31}, {4}, {4, 4}, {4, 9, 4, 4}, {31, 0}, {30, 31, 1, 0}, {5, 6, 7, 8},
		{32}, {-1}, {math.MinInt}, {math.MaxInt}, {1 << 32}, {-1, 32}, odd(),
		{-1, 4, 32, 9, math.MaxInt, 0, math.MinInt, 31}, {4, -1}, {32, 4}, {36, 5, -32, 5},
		list(every), append(odd(), list(every)...), append(list(every), odd()...),
	}
}

// P5.2: With and Without have the elements of before, with or without those of the list that are digits.
func TestWithAndWithout(t *testing.T) {
	for _, s := range sets() {
		for _, l := range lists() {
			with, without := elements(s), elements(s)
			for _, i := range l {
				if i >= 0 && i < 32 {
					with[i], without[i] = true, false
				}
			}
			for range 2 {
				if got := s.With(l...); elements(got) != with {
					t.Fatalf("%#x: With(%v) is %#x", s, l, got)
				}
				if got := s.Without(l...); elements(got) != without {
					t.Fatalf("%#x: Without(%v) is %#x", s, l, got)
				}
			}
		}
	}
}

// P5.2: With and Without, of the edges: bit i is that of the digit i.
func TestWithEdges(t *testing.T) {
	for _, c := range []struct{ got, want digit.Set }{
		{digit.Set(0).With(), 0},
		{digit.Set(0).With(0), 1},
		{digit.Set(0).With(31), 1 << 31},
		{digit.Set(0).With(3, 3), 8},
		{digit.Set(0).With(32), 0},
		{digit.Set(0).With(-1), 0},
		{digit.Set(0).With(math.MaxInt), 0},
		{digit.Set(0).With(math.MinInt), 0},
		{digit.Set(8).With(3), 8},
		{digit.Set(0).With(-1, 3, 32, 0), 9},
		{digit.Set(0).With(list(every)...), every},
		{every.With(0, 31), every},
		{every.Without(), every},
		{every.Without(0), 0xfffffffe},
		{every.Without(31), 0x7fffffff},
		{every.Without(3, 3), 0xfffffff7},
		{every.Without(32), every},
		{every.Without(-1), every},
		{every.Without(math.MaxInt), every},
		{every.Without(math.MinInt), every},
		{digit.Set(8).Without(3), 0},
		{digit.Set(8).Without(2), 8},
		{every.Without(-1, 3, 32, 0), 0xfffffff6},
		{every.Without(list(every)...), 0},
		{digit.Set(0).Without(0, 31), 0},
	} {
		if c.got != c.want {
			t.Errorf("the set is %#x, want %#x", c.got, c.want)
		}
	}
}

// Rule 3: the set that a method is called for, and the list that it is handed,
// are as they were, and so is what lies behind the list's length, which does not count.
func TestArgumentsStay(t *testing.T) {
	whole := []int{9, 4, 4, -1, 31, 7, 32, 0}
	was := slices.Clone(whole)
	for n := range len(whole) + 1 {
		s := digit.Set(1<<4 | 1<<20)
		with, without := s.With(whole[:n]...), s.Without(whole[:n]...)
		apart := slices.Clone(was[:n])
		if with != s.With(apart...) || without != s.Without(apart...) {
			t.Errorf("what lies behind %v counts", whole[:n])
		}
		if !slices.Equal(whole, was) {
			t.Fatalf("the list is now %v", whole)
		}
		s.Has(4)
		s.Place(5)
		s.Len()
		s.All(func(int) bool { return true })
		if s != 1<<4|1<<20 {
			t.Fatalf("the set is now %#x", s)
		}
	}
}

// P5.2: All calls yield for each element, rising, until it returns false, and then no more.
func TestAll(t *testing.T) {
	for _, s := range sets() {
		l := list(s)
		for end := 1; end <= len(l)+1; end++ {
			var got []int
			s.All(func(i int) bool {
				got = append(got, i)
				return len(got) != end
			})
			if want := l[:min(end, len(l))]; !slices.Equal(got, want) {
				t.Fatalf("%#x: All ended at the call %d yields %v, want %v", s, end, got, want)
			}
		}
	}
}

// P5.2: All is a sequence that can be ranged over, within another one too.
func TestAllIsSequence(t *testing.T) {
	if got, want := slices.Collect(digit.Set(1<<0|1<<4|1<<31).All), []int{0, 4, 31}; !slices.Equal(got, want) {
		t.Errorf("All yields %v, want %v", got, want)
	}
	for i := range digit.Set(0).All {
		t.Errorf("the empty set yields %d", i)
	}
	s, calls := digit.Set(1<<2|1<<3|1<<30), 0
	for i := range s.All {
		for k := range s.All {
			calls++
			if k == i {
				break
			}
		}
	}
	if calls != 1+2+3 {
		t.Errorf("%d calls within calls", calls)
	}
}

// P1: All without a function to call ends, and does not panic.
func TestAllOfNothing(t *testing.T) {
	for _, s := range []digit.Set{0, 1, every} {
		s.All(nil)
	}
}

// P5.2: the methods agree: each element's place is its number in All, and without it all others stay.
func TestMethodsAgree(t *testing.T) {
	for _, s := range sets() {
		n := 0
		for i := range s.All {
			less := s.Without(i)
			if !s.Has(i) || s.Place(i) != n || less.Has(i) || less.Len() != s.Len()-1 || less.With(i) != s {
				t.Errorf("%#x: the digit %d", s, i)
			}
			n++
		}
		if n != s.Len() || s.Place(32) != n {
			t.Errorf("%#x: All yields %d, Len is %d, Place(32) is %d", s, n, s.Len(), s.Place(32))
		}
	}
}
