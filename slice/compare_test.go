package slice_test

import (
	"slices"
	"testing"

	"easement/arena"
	"easement/pvec"
	"easement/slice"
	"easement/value"
)

// compared checks Compare of vectors of two lists both ways round, however they were made.
func compared(t *testing.T, a *arena.Arena, name string, l, m []value.Value, want int) {
	t.Helper()
	for _, owner := range []uint32{0, 5} {
		v, w := from(t, a, l), pushed(t, a, m, owner)
		was := look(a, 200)
		for _, c := range []struct {
			v, w pvec.Vec
			want int
		}{{v, w, want}, {w, v, -want}, {v, v, 0}, {w, w, 0}} {
			if got := slice.Compare(a, c.v, c.w); got != c.want {
				t.Errorf("%s: Compare returns %d, want %d", name, got, c.want)
			}
		}
		unchanged(t, a, was)
		pvec.Drop(a, v)
		pvec.Drop(a, w)
		none(t, a)
	}
}

// P7.1: Compare of vectors that are equal, and of which one is the beginning of the other.
func TestCompareLengths(t *testing.T) {
	a := room(t, 200)
	for _, n := range lengths() {
		for _, m := range []int{0, 1, 32, n, n / 2, 1024} {
			want := 0
			if n < m {
				want = -1
			} else if n > m {
				want = 1
			}
			compared(t, a, "beginnings", numbers(1, n), numbers(1, m), want)
		}
	}
}

// P7.1: Compare of vectors that differ at one place: it decides, whatever follows and however long they are.
func TestComparePlaces(t *testing.T) {
	a := room(t, 200)
	for _, n := range lengths()[1:] {
		for _, i := range []int{0, n / 2, n - 1} {
			l, m := numbers(1, n), numbers(1, n)
			m[i] = value.Text("x")
			compared(t, a, "one place", l, m, -1)
			for k := i + 1; k < n; k++ {
				m[k] = value.Value{}
			}
			compared(t, a, "others behind it", l, m, -1)
			compared(t, a, "the greater one is shorter", l, m[:i+1], -1)
			compared(t, a, "the less one is shorter", l[:i+1], m, -1)
		}
	}
}

// P7.1: values of vectors are compared as layer 1 does it, also those that are not valid.
func TestCompareValues(t *testing.T) {
	a := room(t, 200)
	rising := []value.Value{
		{}, {N: 1}, value.Truth(false), value.Truth(true), value.Number(-1), value.Number(0), {Kind: value.Int, S: "x"}, value.Number(1 << 40),
		value.Text(""), value.Text("a"), value.Text("a\x00"), value.Text("b"), value.Text("\xff"), {Kind: value.Bytes, N: 1}, {Kind: 4},
	}
	for i, x := range rising {
		for k, y := range rising {
			l, m := append(numbers(1, 40), x), append(numbers(1, 40), y)
			compared(t, a, "values", l, m, value.Compare(x, y))
			if (value.Compare(x, y) < 0) != (i < k) {
				t.Errorf("value %d and value %d are not in their order", i, k)
			}
		}
	}
}

// P7.1: the empty vector precedes all others, and equals itself.
func TestCompareEmpty(t *testing.T) {
	a := room(t, 200)
	compared(t, a, "two empty ones", nil, nil, 0)
	compared(t, a, "an empty one and Nil", nil, []value.Value{{}}, -1)
	compared(t, a, "an empty one and 1024", nil, numbers(1, 1024), -1)
}

// P7.1: vectors that share cells are compared by their values.
func TestCompareShared(t *testing.T) {
	a := room(t, 300)
	l := numbers(1, 100)
	v := from(t, a, l)
	for _, i := range []int{0, 31, 32, 50, 95, 96, 99} {
		less := made(t)(pvec.Set(a, v, i, value.Truth(true), 0))
		if slice.Compare(a, less, v) != -1 || slice.Compare(a, v, less) != 1 {
			t.Errorf("Compare doesn't see what is less at %d", i)
		}
		same := made(t)(pvec.Set(a, less, i, l[i], 0))
		if slice.Compare(a, same, v) != 0 || slice.Compare(a, v, same) != 0 {
			t.Errorf("Compare sees a difference at %d where there is none", i)
		}
		pvec.Drop(a, less)
		pvec.Drop(a, same)
	}
	if !slices.Equal(slice.All(a, v), l) {
		t.Error("the vector is another than before")
	}
	pvec.Drop(a, v)
	none(t, a)
}
