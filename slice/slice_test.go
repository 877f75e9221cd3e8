package slice_test

import (
	"math"
	"slices"
	"strings"
	"testing"

	"easement/api"
	"easement/arena"
	"easement/pvec"
	"easement/slice"
	"easement/value"
)

// room is an arena with room for so many cells.
func room(t *testing.T, most int) *arena.Arena {
	t.Helper()
	a, e := arena.New(most)
	if e != api.OK {
		t.Fatalf("New(%d) returns %d", most, e)
	}
	return a
}

// numbers are so many values, from a first one on, each different from all others.
func numbers(first, n int) []value.Value {
	var l []value.Value
	for i := range n {
		l = append(l, value.Number(int64(first+i)))
	}
	return l
}

// made is what a call returned that must have no error.
func made(t *testing.T) func(pvec.Vec, api.Errno) pvec.Vec {
	return func(v pvec.Vec, e api.Errno) pvec.Vec {
		t.Helper()
		if e != api.OK {
			t.Fatalf("the call returns %v, %d", v, e)
		}
		return v
	}
}

// fails checks that a call returned an error, and nothing beside it.
func fails(t *testing.T, want api.Errno) func(pvec.Vec, api.Errno) {
	return func(v pvec.Vec, e api.Errno) {
		t.Helper()
		if v != (pvec.Vec{}) || e != want {
			t.Errorf("the call returns %v, %d; want %d", v, e, want)
		}
	}
}

// from is a vector of values, made by From.
func from(t *testing.T, a *arena.Arena, l []value.Value) pvec.Vec {
	t.Helper()
	return made(t)(slice.From(a, l...))
}

// pushed is a vector of the same values that this layer did not make.
func pushed(t *testing.T, a *arena.Arena, l []value.Value, owner uint32) pvec.Vec {
	t.Helper()
	v := pvec.Vec{}
	for _, x := range l {
		next := made(t)(pvec.Push(a, v, x, owner))
		if owner == 0 {
			pvec.Drop(a, v)
		}
		v = next
	}
	return v
}

// has checks, by layer 6 alone, that a vector has these values and no others.
func has(t *testing.T, a *arena.Arena, v pvec.Vec, want []value.Value) {
	t.Helper()
	if v.N != len(want) {
		t.Fatalf("the vector has %d values, want %d", v.N, len(want))
	}
	for i, x := range want {
		if got, e := pvec.Get(a, v, i); got != x || e != api.OK {
			t.Fatalf("Get(%d) of %d values returns %v, %d; want %v", i, v.N, got, e, x)
		}
	}
	if got, e := pvec.Get(a, v, v.N); e != api.ErrRange {
		t.Fatalf("Get(%d) of %d values returns %v, %d", v.N, v.N, got, e)
	}
}

// few is how many cells a vector of so many values may take.
func few(n int) int {
	if n == 0 {
		return 0
	}
	return n/16 + 3
}

// none checks that no cell is live.
func none(t *testing.T, a *arena.Arena) {
	t.Helper()
	if a.Live() != 0 {
		t.Errorf("%d cells are live behind the last Drop", a.Live())
	}
}

// state is what an arena has: each held cell, and the references to it.
type state struct {
	cells []arena.Cell
	refs  []int
}

// look is the state of an arena that had at most so many cells at once.
func look(a *arena.Arena, most int) state {
	var s state
	for i := range most + 1 {
		c, _ := a.Get(i)
		s.cells = append(s.cells, c)
		s.refs = append(s.refs, a.Refs(i))
	}
	return s
}

// unchanged checks that an arena has the state that it had.
func unchanged(t *testing.T, a *arena.Arena, was state) {
	t.Helper()
	now := look(a, len(was.refs)-1)
	same := slices.EqualFunc(now.cells, was.cells, func(x, y arena.Cell) bool {
		return x.Owner == y.Owner && x.A == y.A && x.B == y.B && slices.Equal(x.Vals, y.Vals) && slices.Equal(x.Kids, y.Kids)
	})
	if !same || !slices.Equal(now.refs, was.refs) {
		t.Errorf("the cells of the arena are others than before")
	}
}

// ends are the numbers around what is there, of a vector of so many values, and the greatest and least ones.
func ends(n int) []int {
	return []int{math.MinInt, math.MinInt + 1, math.MinInt32, -1025, -65, -64, -1, 0, 1, n / 2, n - 1, n, n + 1, n + 32, n + 64, 1025, math.MaxInt32, 1 << 32, 1<<32 + 1, math.MaxInt - 64, math.MaxInt - 1, math.MaxInt}
}

// lengths are those at which the cells of a vector may come to be others.
func lengths() []int {
	return []int{0, 1, 2, 15, 16, 17, 31, 32, 33, 63, 64, 65, 66, 96, 97, 128, 129, 513, 992, 993, 1023, 1024}
}

// The example of the chapter.
func TestExample(t *testing.T) {
	a := room(t, 8)
	v := from(t, a, numbers(1, 3))
	l, e := slice.Page(a, v, 1, 9)
	if !slices.Equal(l, numbers(2, 2)) || e != api.OK {
		t.Errorf("Page returns %v, %d", l, e)
	}
	pvec.Drop(a, v)
	none(t, a)
}

// P7.1: From of no values is the empty vector, without a cell, also where there is no room.
func TestFromNothing(t *testing.T) {
	a := room(t, 1)
	for range 2 {
		for _, l := range [][]value.Value{nil, {}, make([]value.Value, 0, 5)} {
			if v, e := slice.From(a, l...); v != (pvec.Vec{}) || e != api.OK {
				t.Errorf("From of nothing returns %v, %d", v, e)
			}
		}
		if v, e := slice.From(a); v != (pvec.Vec{}) || e != api.OK {
			t.Errorf("From of nothing returns %v, %d", v, e)
		}
		a.Make(arena.Cell{})
	}
	if a.Live() != 1 {
		t.Errorf("%d cells are live", a.Live())
	}
}

// P7.1: From and All of every length up to 1024; no more cells are live than a vector may take.
func TestFromEveryLength(t *testing.T) {
	a := room(t, few(1024)+8)
	l := numbers(-500, 1024)
	for n := range 1025 {
		v := from(t, a, l[:n])
		has(t, a, v, l[:n])
		if got := slice.All(a, v); !slices.Equal(got, l[:n]) {
			t.Fatalf("All of %d values returns %d others", n, len(got))
		}
		if a.Live() > few(n) {
			t.Fatalf("%d cells are live for %d values", a.Live(), n)
		}
		pvec.Drop(a, v)
		none(t, a)
	}
}

// P7.1: values of all kinds, also equal ones and ones that are not valid, come back as they are.
func TestFromValues(t *testing.T) {
	l := []value.Value{
		{}, value.Truth(false), value.Truth(true), value.Number(math.MinInt64), value.Number(math.MaxInt64), {}, {},
		value.Text(""), value.Text("\x00\xff"), value.Text("x"), value.Text("x"), value.Text(strings.Repeat("x", api.MaxBytes)),
		value.Text(strings.Repeat("x", api.MaxBytes+1)), {Kind: 200, N: -1, S: "x"},
	}
	a := room(t, 9)
	v := from(t, a, l)
	has(t, a, v, l)
	if got := slice.All(a, v); !slices.Equal(got, l) {
		t.Errorf("All returns %v", got)
	}
	pvec.Drop(a, v)
	none(t, a)
}

// P7.1: From of more than 1024 values returns the error of Push, and no reference remains.
func TestFromTooMany(t *testing.T) {
	a := room(t, 1000)
	for _, n := range []int{1025, 1026, 1056, 1057, 2048, 2049, 20000} {
		fails(t, api.ErrLong)(slice.From(a, numbers(1, n)...))
		none(t, a)
	}
	v := from(t, a, numbers(1, 1024))
	was := look(a, 200)
	fails(t, api.ErrLong)(slice.From(a, numbers(1, 1025)...))
	has(t, a, v, numbers(1, 1024))
	unchanged(t, a, was)
	pvec.Drop(a, v)
	none(t, a)
}

// P7.1: in arenas of every small room a vector is made, or nothing is held; what is
// enough stays enough, and room for the cells of the vector and 8 more is enough.
func TestFromEveryRoom(t *testing.T) {
	for _, n := range append(lengths(), 1025, 2000) {
		l, enough := numbers(1, n), false
		for most := 1; most <= few(min(n, 1024))+8; most++ {
			a := room(t, most)
			v, e := slice.From(a, l...)
			switch {
			case e == api.OK:
				has(t, a, v, l)
				pvec.Drop(a, v)
				enough = true
			case e == api.ErrLong && n > 1024:
				fails(t, api.ErrLong)(v, e)
				enough = true
			default:
				fails(t, api.ErrFull)(v, e)
				if enough {
					t.Fatalf("room for %d cells is not enough for %d values, but less was", most, n)
				}
			}
			none(t, a)
		}
		if !enough {
			t.Errorf("room for %d cells and 8 more is not enough for %d values", few(min(n, 1024)), n)
		}
	}
}

// P7.1: where others hold cells, an error leaves theirs as they are, and the cells that were taken are free again.
func TestFromBesideOthers(t *testing.T) {
	for left := range 8 {
		const most = 40
		a := room(t, most)
		v := from(t, a, numbers(1, 70))
		for a.Room() > left {
			a.Make(arena.Cell{Owner: math.MaxUint32, Vals: numbers(7, 1)})
		}
		was := look(a, most)
		fails(t, api.ErrFull)(slice.From(a, numbers(1, 1024)...))
		fails(t, api.ErrFull)(slice.From(a, numbers(1, 2000)...))
		fails(t, api.ErrFull)(slice.Join(a, v, v, v, v))
		if left == 0 {
			fails(t, api.ErrFull)(slice.From(a, numbers(1, 1)...))
			fails(t, api.ErrFull)(slice.Cut(a, v, 3, 4))
			fails(t, api.ErrFull)(slice.Join(a, v))
		}
		unchanged(t, a, was)
		has(t, a, v, numbers(1, 70))
		if a.Room() != left {
			t.Errorf("there is room for %d cells, %d before", a.Room(), left)
		}
	}
}

// P7.1: All of vectors that layer 6 made, with an owner or without.
func TestAll(t *testing.T) {
	a := room(t, 200)
	if l := slice.All(a, pvec.Vec{}); len(l) != 0 {
		t.Errorf("All of the empty vector returns %v", l)
	}
	for _, n := range lengths() {
		for _, owner := range []uint32{0, 5} {
			l := numbers(9, n)
			v := pushed(t, a, l, owner)
			was := look(a, 200)
			if got := slice.All(a, v); !slices.Equal(got, l) {
				t.Errorf("All of %d values returns %d others", n, len(got))
			}
			unchanged(t, a, was)
			pvec.Drop(a, v)
			none(t, a)
		}
	}
}

// P7.1: All of what Pop made has nothing of what lay behind it.
func TestAllAfterPop(t *testing.T) {
	a := room(t, 200)
	for _, n := range lengths()[1:] {
		l := numbers(9, n)
		v := from(t, a, l)
		w := made(t)(pvec.Pop(a, v, 0))
		if got := slice.All(a, w); !slices.Equal(got, l[:n-1]) {
			t.Errorf("All of %d values without the last one returns %d", n, len(got))
		}
		page, e := slice.Page(a, w, w.N, 64)
		if len(page) != 0 || e != api.OK {
			t.Errorf("Page behind %d values returns %v, %d", w.N, page, e)
		}
		fails(t, api.ErrRange)(slice.Cut(a, w, 0, n))
		pvec.Drop(a, w)
		pvec.Drop(a, v)
		none(t, a)
	}
}

// wantPage is what Page must return for these values.
func wantPage(l []value.Value, from, n int) ([]value.Value, api.Errno) {
	if n < 0 || n > 64 {
		return nil, api.ErrArg
	}
	if from < 0 || from > len(l) {
		return nil, api.ErrRange
	}
	return l[from : from+min(n, len(l)-from)], api.OK
}

// P7.1: Page at and beyond all ends; ErrArg is returned ahead of ErrRange.
func TestPage(t *testing.T) {
	a := room(t, 200)
	for _, n := range lengths() {
		l := numbers(1, n)
		v := from(t, a, l)
		was := look(a, 200)
		for _, begin := range append(ends(n), 30, 31, 32, 33, n-64, n-65, n-33) {
			for _, most := range []int{math.MinInt, math.MinInt + 1, math.MinInt32, -64, -1, 0, 1, 2, 31, 32, 33, 63, 64, 65, 66, 1024, 1 << 32, 1<<32 + 1, math.MaxInt - 1, math.MaxInt} {
				got, e := slice.Page(a, v, begin, most)
				want, f := wantPage(l, begin, most)
				if !slices.Equal(got, want) || e != f {
					t.Errorf("Page(%d, %d) of %d values returns %v, %d; want %v, %d", begin, most, n, got, e, want, f)
				}
			}
		}
		unchanged(t, a, was)
		pvec.Drop(a, v)
		none(t, a)
	}
}

// P7.1: the edges of Page that the document names, one by one.
func TestPageEdges(t *testing.T) {
	a := room(t, 20)
	v := from(t, a, numbers(0, 70))
	for _, c := range []struct {
		from, n int
		want    []value.Value
		e       api.Errno
	}{
		{0, 64, numbers(0, 64), api.OK},
		{0, 65, nil, api.ErrArg},
		{0, -1, nil, api.ErrArg},
		{0, 0, nil, api.OK},
		{70, 0, nil, api.OK},
		{70, 64, nil, api.OK},
		{69, 64, numbers(69, 1), api.OK},
		{6, 64, numbers(6, 64), api.OK},
		{7, 64, numbers(7, 63), api.OK},
		{71, 0, nil, api.ErrRange},
		{-1, 0, nil, api.ErrRange},
		{-1, 64, nil, api.ErrRange},
		{71, 65, nil, api.ErrArg},
		{-1, -1, nil, api.ErrArg},
		{math.MaxInt, 64, nil, api.ErrRange},
		{math.MinInt, 64, nil, api.ErrRange},
		{math.MaxInt, math.MaxInt, nil, api.ErrArg},
		{math.MinInt, math.MinInt, nil, api.ErrArg},
	} {
		if got, e := slice.Page(a, v, c.from, c.n); !slices.Equal(got, c.want) || e != c.e {
			t.Errorf("Page(%d, %d) returns %v, %d; want %v, %d", c.from, c.n, got, e, c.want, c.e)
		}
	}
	pvec.Drop(a, v)
	none(t, a)
}
