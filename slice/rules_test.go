package slice_test

import (
	"math"
	"slices"
	"testing"

	"easement/api"
	"easement/arena"
	"easement/pvec"
	"easement/slice"
	"easement/value"
)

// Rule 3: the list that From is handed, and what lies behind its length, is as it was; the vector doesn't change with it.
func TestFromLeavesItsList(t *testing.T) {
	for _, n := range []int{0, 1, 31, 32, 33, 65, 1024, 1025} {
		a := room(t, 200)
		l := numbers(1, n+50)
		kept := slices.Clone(l)
		v, e := slice.From(a, l[:n]...)
		if n > 1024 {
			fails(t, api.ErrLong)(v, e)
		}
		if !slices.Equal(l, kept) {
			t.Errorf("From of %d values changes what it was handed", n)
		}
		clear(l)
		if n <= 1024 {
			has(t, a, v, kept[:n])
		}
		pvec.Drop(a, v)
		none(t, a)
	}
}

// Rule 3: the list that Join is handed, and what lies behind its length, is as it was.
func TestJoinLeavesItsList(t *testing.T) {
	a := room(t, 300)
	full, one := from(t, a, numbers(1, 1024)), from(t, a, numbers(5, 1))
	strange := pvec.Vec{N: 7, Root: 1000, Tail: -1}
	l := []pvec.Vec{one, {}, one, full, strange, full}
	kept := slices.Clone(l)
	w := made(t)(slice.Join(a, l[:3]...))
	fails(t, api.ErrLong)(slice.Join(a, l[:4]...))
	made(t)(slice.Join(a, l[:0]...))
	if !slices.Equal(l, kept) {
		t.Error("Join changes what it was handed")
	}
	clear(l)
	has(t, a, w, []value.Value{value.Number(5), value.Number(5)})
	for _, v := range []pvec.Vec{full, one, w} {
		pvec.Drop(a, v)
	}
	none(t, a)
}

// Rule 3: what All and Page return shares no memory with the vector, nor with what they return another time.
func TestListsAreApart(t *testing.T) {
	a := room(t, 200)
	l := numbers(1, 70)
	v := from(t, a, l)
	one, two := slice.All(a, v), slice.All(a, v)
	page, e := slice.Page(a, v, 30, 9)
	next, f := slice.Page(a, v, 39, 9)
	if e != api.OK || f != api.OK {
		t.Fatalf("Page returns %d and %d", e, f)
	}
	clear(one)
	clear(page)
	_ = append(page, value.Text("x"))
	_ = append(one[:3], value.Text("x"))
	if !slices.Equal(two, l) || !slices.Equal(next, l[39:48]) {
		t.Error("two results share memory")
	}
	has(t, a, v, l)
	pvec.Drop(a, v)
	if !slices.Equal(two, l) || !slices.Equal(next, l[39:48]) {
		t.Error("a result is gone with its vector")
	}
	none(t, a)
}

// copies are the ways of this layer to make a vector that equals another one.
func copies() []func(*arena.Arena, pvec.Vec) (pvec.Vec, api.Errno) {
	return []func(*arena.Arena, pvec.Vec) (pvec.Vec, api.Errno){
		func(a *arena.Arena, v pvec.Vec) (pvec.Vec, api.Errno) { return slice.From(a, slice.All(a, v)...) },
		func(a *arena.Arena, v pvec.Vec) (pvec.Vec, api.Errno) { return slice.Cut(a, v, 0, v.N) },
		func(a *arena.Arena, v pvec.Vec) (pvec.Vec, api.Errno) { return slice.Join(a, v) },
		func(a *arena.Arena, v pvec.Vec) (pvec.Vec, api.Errno) {
			return slice.Join(a, pvec.Vec{}, v, pvec.Vec{})
		},
	}
}

// changed changes a vector by layer 6 at its first and last value and at its end.
func changed(t *testing.T, a *arena.Arena, v pvec.Vec, owner uint32) pvec.Vec {
	t.Helper()
	for _, i := range []int{0, v.N / 2, v.N - 1} {
		next := made(t)(pvec.Set(a, v, i, value.Text("y"), owner))
		if owner == 0 {
			pvec.Drop(a, v)
		}
		v = next
	}
	next := made(t)(pvec.Pop(a, v, owner))
	if owner == 0 {
		pvec.Drop(a, v)
	}
	return next
}

// The words of the chapter: results have references of their own, whichever is
// changed or dropped first, with an owner or without.
func TestResultsAreApart(t *testing.T) {
	for _, n := range []int{1, 2, 32, 33, 64, 65, 97, 1024} {
		for _, owner := range []uint32{0, 5} {
			for _, again := range copies() {
				a := room(t, 400)
				l := numbers(1, n)
				v := pushed(t, a, l, owner)
				w, u := made(t)(again(a, v)), made(t)(again(a, v))
				v = changed(t, a, v, owner)
				has(t, a, w, l)
				w = changed(t, a, w, owner)
				has(t, a, u, l)
				if !slices.Equal(slice.All(a, v), slice.All(a, w)) {
					t.Error("the same changes of the same values differ")
				}
				pvec.Drop(a, v)
				has(t, a, u, l)
				pvec.Drop(a, u)
				if w.N != n-1 || slice.Compare(a, w, w) != 0 {
					t.Errorf("a vector has %d values, want %d", w.N, n-1)
				}
				pvec.Drop(a, w)
				none(t, a)
			}
		}
	}
}

// The words of the chapter: a vector that this layer made, and what was made of
// it by layer 6, stays as it is however many others this layer makes.
func TestMadeVectorsLast(t *testing.T) {
	a := room(t, 2000)
	l := numbers(1, 100)
	v := from(t, a, l)
	pvec.Keep(a, v)
	longer := made(t)(pvec.Push(a, v, value.Text("x"), 0))
	shorter := made(t)(pvec.Pop(a, v, 0))
	was := look(a, 60)
	for n := range 140 {
		one := from(t, a, numbers(1000, n))
		two := made(t)(slice.Join(a, v, one, shorter))
		three := made(t)(slice.Cut(a, two, n/2, n))
		for _, u := range []pvec.Vec{one, two, three} {
			pvec.Drop(a, u)
		}
	}
	unchanged(t, a, was)
	has(t, a, v, l)
	has(t, a, longer, append(numbers(1, 100), value.Text("x")))
	has(t, a, shorter, l[:99])
	for _, u := range []pvec.Vec{v, v, longer, shorter} {
		pvec.Drop(a, u)
	}
	none(t, a)
}

// The words of the chapter: no other owner than the reserved one may find cells of its own among those that this layer made.
func TestReservedOwner(t *testing.T) {
	a := room(t, 300)
	v := from(t, a, numbers(1, 100))
	made(t)(slice.Cut(a, v, 5, 80))
	made(t)(slice.Join(a, v, v))
	for i := 1; i <= a.Live(); i++ {
		c, ok := a.Get(i)
		if !ok || c.Owner != 0 && c.Owner != math.MaxUint32 {
			t.Errorf("cell %d is held: %t, and has the owner %d", i, ok, c.Owner)
		}
	}
}

// P2: the same calls return the same, whatever is done in another arena between them.
func TestSameCallsSameResults(t *testing.T) {
	run := func(other *arena.Arena) []pvec.Vec {
		a := room(t, 300)
		var l []pvec.Vec
		for i := range 200 {
			v := from(t, a, numbers(i, i))
			w := made(t)(slice.Cut(a, v, i/3, i))
			u := made(t)(slice.Join(a, w, v, w))
			l = append(l, v, w, u)
			slice.From(other, numbers(i, 3)...)
			if i%2 == 0 {
				pvec.Drop(a, v)
			}
			pvec.Drop(a, u)
			pvec.Drop(a, w)
			if i%2 == 1 {
				pvec.Drop(a, v)
			}
		}
		none(t, a)
		return l
	}
	if !slices.Equal(run(nil), run(room(t, 900))) {
		t.Error("the same calls return other vectors")
	}
}

// No call panics, or fails to end, for what no call returned, or without an arena.
func TestStrangersDoNotPanic(t *testing.T) {
	a := room(t, 100)
	full := from(t, a, numbers(1, 1024))
	trunk, _ := a.Get(full.Root)
	trunk.Kids = append(trunk.Kids, full.Tail)
	for _, k := range trunk.Kids {
		a.Keep(k)
	}
	wide, _ := a.Make(arena.Cell{Kids: trunk.Kids})
	for _, n := range []int{math.MinInt, -1, 0, 1, 33, 1024, 1025, 1 << 40, math.MaxInt} {
		for _, root := range []int{-1, 0, 1, full.Root, wide, 5000} {
			for _, tail := range []int{-1, 0, 1, full.Tail, 5000} {
				strange(t, a, pvec.Vec{N: n, Root: root, Tail: tail})
			}
		}
	}
	has(t, a, full, numbers(1, 1024))
	for _, v := range []pvec.Vec{{}, full} {
		strange(t, nil, v)
	}
}

// strange makes every call for a vector that no call returned, or not for this arena.
func strange(t *testing.T, a *arena.Arena, v pvec.Vec) {
	t.Helper()
	live := a.Live()
	slice.All(a, v)
	slice.Compare(a, v, v)
	for _, i := range []int{math.MinInt, -1, 0, 1, 1024, 1 << 40, math.MaxInt} {
		slice.Page(a, v, i, 64)
		w, _ := slice.Cut(a, v, i, v.N)
		pvec.Drop(a, w)
	}
	for _, l := range [][]pvec.Vec{{v}, {v, v}} {
		w, _ := slice.Join(a, l...)
		pvec.Drop(a, w)
	}
	if a.Live() != live {
		t.Errorf("%d cells are live, %d before", a.Live(), live)
	}
}
