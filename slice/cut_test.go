package slice_test

import (
	"math"
	"slices"
	"testing"

	"easement/api"
	"easement/arena"
	"easement/pvec"
	"easement/slice"
	"easement/value"
)

// cutOnce cuts once, and checks that the result has cells of its own that go with it.
func cutOnce(t *testing.T, a *arena.Arena, v pvec.Vec, l []value.Value, from, to int) {
	t.Helper()
	was, live := look(a, 200), a.Live()
	w, e := slice.Cut(a, v, from, to)
	if from < 0 || from > to || to > len(l) {
		fails(t, api.ErrRange)(w, e)
		unchanged(t, a, was)
		return
	}
	if e != api.OK {
		t.Fatalf("Cut(%d, %d) of %d values returns %d", from, to, len(l), e)
	}
	has(t, a, w, l[from:to])
	if from == to && w != (pvec.Vec{}) {
		t.Errorf("Cut(%d, %d) is %v", from, to, w)
	}
	if a.Live()-live > few(to-from) {
		t.Errorf("Cut(%d, %d) takes %d cells", from, to, a.Live()-live)
	}
	pvec.Drop(a, w)
	unchanged(t, a, was)
}

// P7.2: Cut with both places at, between and beyond the ends, and with from behind to.
func TestCut(t *testing.T) {
	for _, n := range []int{0, 1, 2, 31, 32, 33, 64, 65, 97, 1024} {
		a := room(t, 200)
		l := numbers(1, n)
		v := from(t, a, l)
		places := append(ends(n), 2, 31, 32, 33, n-32, n-33)
		for _, from := range places {
			for _, to := range places {
				cutOnce(t, a, v, l, from, to)
			}
		}
		has(t, a, v, l)
		pvec.Drop(a, v)
		none(t, a)
	}
}

// P7.2: each piece of a vector.
func TestCutEach(t *testing.T) {
	a := room(t, 200)
	l := numbers(1, 70)
	v := pushed(t, a, l, 0)
	for from := range 72 {
		for to := range 72 {
			cutOnce(t, a, v, l, from, to)
		}
	}
	has(t, a, v, l)
	pvec.Drop(a, v)
	none(t, a)
}

// P7.2: Cut returns ErrRange ahead of ErrFull, and a cut of nothing needs no room.
func TestCutWithoutRoom(t *testing.T) {
	a := room(t, 40)
	l := numbers(1, 100)
	v := from(t, a, l)
	for a.Room() > 0 {
		a.Make(arena.Cell{})
	}
	was := look(a, 40)
	for _, c := range []struct {
		from, to int
		want     api.Errno
	}{
		{-1, 5, api.ErrRange}, {5, 4, api.ErrRange}, {0, 101, api.ErrRange}, {101, 101, api.ErrRange}, {-1, -1, api.ErrRange},
		{math.MinInt, math.MaxInt, api.ErrRange}, {math.MaxInt, math.MinInt, api.ErrRange},
		{0, 0, api.OK}, {50, 50, api.OK}, {100, 100, api.OK},
		{0, 1, api.ErrFull}, {0, 100, api.ErrFull}, {99, 100, api.ErrFull},
	} {
		if w, e := slice.Cut(a, v, c.from, c.to); w != (pvec.Vec{}) || e != c.want {
			t.Errorf("Cut(%d, %d) returns %v, %d; want %d", c.from, c.to, w, e, c.want)
		}
	}
	unchanged(t, a, was)
	has(t, a, v, l)
}

// P7.2: Cut and Join fail exactly where From of the same values does, with the same error.
func TestEveryRoom(t *testing.T) {
	l := numbers(1, 1024)
	for _, n := range []int{1, 33, 65, 200, 1024} {
		for left := range few(n) + 9 {
			a := room(t, 200)
			v := from(t, a, l)
			for a.Room() > left {
				a.Make(arena.Cell{})
			}
			live := a.Live()
			_, want := oneBeside(a, func() (pvec.Vec, api.Errno) { return slice.From(a, l[:n]...) })
			got, e := oneBeside(a, func() (pvec.Vec, api.Errno) { return slice.Cut(a, v, 0, n) })
			if e != want || e == api.OK && !slices.Equal(got, l[:n]) {
				t.Errorf("Cut of %d values with room for %d cells returns %d, From %d", n, left, e, want)
			}
			_, want = oneBeside(a, func() (pvec.Vec, api.Errno) { return slice.From(a, append(l, l...)...) })
			_, e = oneBeside(a, func() (pvec.Vec, api.Errno) { return slice.Join(a, v, v) })
			if e != want || e == api.OK {
				t.Errorf("Join of too many values with room for %d cells returns %d, From %d", left, e, want)
			}
			if a.Live() != live {
				t.Fatalf("%d cells are live, %d before", a.Live(), live)
			}
			has(t, a, v, l)
		}
	}
}

// oneBeside makes one vector, and drops it again: its values, and the error.
func oneBeside(a *arena.Arena, call func() (pvec.Vec, api.Errno)) ([]value.Value, api.Errno) {
	v, e := call()
	l := slice.All(a, v)
	pvec.Drop(a, v)
	return l, e
}

// P7.2: Join of vectors of these lengths, one after the other.
func TestJoin(t *testing.T) {
	for _, c := range [][]int{
		nil, {}, {0}, {0, 0, 0}, {1}, {5}, {32}, {33}, {1024}, {0, 5}, {5, 0}, {0, 5, 0, 0, 7, 0},
		{1, 1, 1}, {31, 1, 32}, {31, 2}, {32, 32}, {33, 1, 64}, {500, 524}, {1, 1023}, {1023, 1}, {1024, 0}, {0, 1024, 0, 0},
	} {
		a := room(t, 500)
		var vs []pvec.Vec
		var want []value.Value
		for i, n := range c {
			l := numbers(10000*i, n)
			vs, want = append(vs, from(t, a, l)), append(want, l...)
		}
		was, live := look(a, 500), a.Live()
		w := made(t)(slice.Join(a, vs...))
		has(t, a, w, want)
		if len(want) == 0 && w != (pvec.Vec{}) {
			t.Errorf("Join of no values is %v", w)
		}
		if a.Live()-live > few(len(want)) {
			t.Errorf("Join of %v takes %d cells", c, a.Live()-live)
		}
		pvec.Drop(a, w)
		unchanged(t, a, was)
		for _, v := range vs {
			pvec.Drop(a, v)
		}
		none(t, a)
	}
}

// P7.2: Join of the same vector more than once, and of vectors that share cells.
func TestJoinSame(t *testing.T) {
	a := room(t, 500)
	l := numbers(1, 40)
	v := pushed(t, a, l, 0)
	more := made(t)(pvec.Push(a, v, value.Text("x"), 0))
	w := made(t)(slice.Join(a, v, v, more, v))
	has(t, a, w, slices.Concat(l, l, l, []value.Value{value.Text("x")}, l))
	ww := made(t)(slice.Join(a, w, w))
	has(t, a, ww, append(slice.All(a, w), slice.All(a, w)...))
	has(t, a, v, l)
	for _, u := range []pvec.Vec{v, w, more, ww} {
		pvec.Drop(a, u)
	}
	none(t, a)
}

// P7.2: Join of more than 1024 values together returns the error of Push, and no reference remains.
func TestJoinTooMany(t *testing.T) {
	a := room(t, 1000)
	full, one, most := from(t, a, numbers(1, 1024)), from(t, a, numbers(5, 1)), from(t, a, numbers(1, 1000))
	was := look(a, 500)
	for _, l := range [][]pvec.Vec{
		{full, one}, {one, full}, {full, full}, {full, {}, {}, one}, {{}, one, full, {}}, {most, one, most}, {most, most, most, most, most},
		slices.Repeat([]pvec.Vec{one}, 1025), slices.Repeat([]pvec.Vec{full, most}, 500),
	} {
		fails(t, api.ErrLong)(slice.Join(a, l...))
		unchanged(t, a, was)
	}
	w := made(t)(slice.Join(a, slices.Repeat([]pvec.Vec{one}, 1024)...))
	has(t, a, w, slices.Repeat(numbers(5, 1), 1024))
	for _, v := range []pvec.Vec{full, one, most, w} {
		pvec.Drop(a, v)
	}
	none(t, a)
}

// P7.2: Join of nothing, and of nothing but empty vectors, needs no room; Join of one vector does.
func TestJoinWithoutRoom(t *testing.T) {
	a := room(t, 1)
	v := from(t, a, numbers(1, 1))
	if w, e := slice.Join(a); w != (pvec.Vec{}) || e != api.OK {
		t.Errorf("Join of nothing returns %v, %d", w, e)
	}
	if w, e := slice.Join(a, pvec.Vec{}, pvec.Vec{}); w != (pvec.Vec{}) || e != api.OK {
		t.Errorf("Join of empty vectors returns %v, %d", w, e)
	}
	fails(t, api.ErrFull)(slice.Join(a, v))
	has(t, a, v, numbers(1, 1))
	pvec.Drop(a, v)
	none(t, a)
}
