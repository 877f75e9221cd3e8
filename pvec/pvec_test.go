package pvec_test

import (
	"math"
	"slices"
	"strings"
	"testing"

	"easement/api"
	"easement/arena"
	"easement/pvec"
	"easement/value"
)

// room is an arena with room for so many cells.
func room(t *testing.T, most int) *arena.Arena {
	t.Helper()
	a, e := arena.New(most)
	if e != api.OK {
		t.Fatalf("New(%d) returns %d", most, e)
	}
	return a
}

// numbers are so many values, from a first one on, each different from all others.
func numbers(first, n int) []value.Value {
	var l []value.Value
	for i := range n {
		l = append(l, value.Number(int64(first+i)))
	}
	return l
}

// build is a vector with these values, made with an owner; with 0 the vectors between are dropped.
func build(t *testing.T, a *arena.Arena, l []value.Value, owner uint32) pvec.Vec {
	t.Helper()
	v := pvec.Vec{}
	for _, x := range l {
		v = then(t, a, v, owner)(pvec.Push(a, v, x, owner))
	}
	return v
}

// then is the result of a change that must not fail; the vector of before is dropped if it remains.
func then(t *testing.T, a *arena.Arena, v pvec.Vec, owner uint32) func(pvec.Vec, api.Errno) pvec.Vec {
	return func(w pvec.Vec, e api.Errno) pvec.Vec {
		t.Helper()
		if e != api.OK {
			t.Fatalf("a change of a vector of %d values returns %v, %d", v.N, w, e)
		}
		if owner == 0 {
			pvec.Drop(a, v)
		}
		return w
	}
}

// has checks that a vector has these values and no others.
func has(t *testing.T, a *arena.Arena, v pvec.Vec, want []value.Value) {
	t.Helper()
	if v.N != len(want) {
		t.Fatalf("the vector has %d values, want %d", v.N, len(want))
	}
	for i, x := range want {
		if got, e := pvec.Get(a, v, i); got != x || e != api.OK {
			t.Fatalf("Get(%d) of %d values returns %v, %d; want %v", i, v.N, got, e, x)
		}
	}
	for _, i := range []int{math.MinInt, math.MinInt + 1, -1024, -33, -32, -1, v.N, v.N + 1, v.N + 32, v.N + 1024, 1 << 32, math.MaxInt - 1, math.MaxInt} {
		if got, e := pvec.Get(a, v, i); got != (value.Value{}) || e != api.ErrRange {
			t.Fatalf("Get(%d) of %d values returns %v, %d", i, v.N, got, e)
		}
	}
}

// few checks that no more cells are live than one vector may take.
func few(t *testing.T, a *arena.Arena, n int) {
	t.Helper()
	most := n/16 + 3
	if n == 0 {
		most = 0
	}
	if a.Live() > most {
		t.Fatalf("a vector of %d values takes %d cells", n, a.Live())
	}
}

// none checks that no cell is live.
func none(t *testing.T, a *arena.Arena) {
	t.Helper()
	if a.Live() != 0 {
		t.Errorf("%d cells are live behind the last Drop", a.Live())
	}
}

// state is what an arena has: each held cell, and the references to it.
type state struct {
	cells []arena.Cell
	refs  []int
}

// look is the state of an arena that had at most so many cells at once.
func look(a *arena.Arena, most int) state {
	var s state
	for i := range most + 1 {
		c, _ := a.Get(i)
		s.cells = append(s.cells, c)
		s.refs = append(s.refs, a.Refs(i))
	}
	return s
}

// unchanged checks that an arena has the state that it had.
func unchanged(t *testing.T, a *arena.Arena, was state) {
	t.Helper()
	now := look(a, len(was.refs)-1)
	same := slices.EqualFunc(now.cells, was.cells, func(x, y arena.Cell) bool {
		return x.Owner == y.Owner && x.A == y.A && x.B == y.B && slices.Equal(x.Vals, y.Vals) && slices.Equal(x.Kids, y.Kids)
	})
	if !same || !slices.Equal(now.refs, was.refs) {
		t.Errorf("the cells of the arena are others than before")
	}
}

// fails checks that a change returned an error, and nothing beside it.
func fails(t *testing.T, want api.Errno) func(pvec.Vec, api.Errno) {
	return func(v pvec.Vec, e api.Errno) {
		t.Helper()
		if v != (pvec.Vec{}) || e != want {
			t.Errorf("a change returns %v, %d; want %d", v, e, want)
		}
	}
}

// lengths are those at which the cells of a vector may come to be others.
func lengths() []int {
	return []int{0, 1, 2, 3, 15, 16, 17, 31, 32, 33, 34, 63, 64, 65, 66, 95, 96, 97, 127, 128, 129, 500, 512, 513, 991, 992, 993, 994, 1022, 1023, 1024}
}

// someLengths are a few of them, for what is tried in many ways.
func someLengths() []int { return []int{0, 1, 2, 31, 32, 33, 34, 64, 65, 66, 97, 993, 1024} }

// The example of the chapter.
func TestExample(t *testing.T) {
	a := room(t, 8)
	v, e := pvec.Push(a, pvec.Vec{}, value.Number(1), 0)
	if e != api.OK || v.N != 1 {
		t.Fatalf("Push returns %v, %d", v, e)
	}
	if x, e := pvec.Get(a, v, 0); x != value.Number(1) || e != api.OK {
		t.Errorf("Get returns %v, %d", x, e)
	}
}

// P6.1: Get, of vectors of many lengths, at each position and at what is none.
func TestGet(t *testing.T) {
	a := room(t, 4000)
	for _, n := range lengths() {
		for _, owner := range []uint32{0, 1, math.MaxUint32} {
			l := numbers(7000, n)
			v := build(t, a, l, owner)
			has(t, a, v, l)
			pvec.Drop(a, v)
			none(t, a)
		}
	}
}

// P6.1: the empty vector has no positions, takes no cells, and is kept and dropped without any.
func TestEmpty(t *testing.T) {
	a := room(t, 8)
	has(t, a, pvec.Vec{}, nil)
	if x, e := pvec.Get(a, pvec.Vec{}, 0); x != (value.Value{}) || e != api.ErrRange {
		t.Errorf("Get(0) returns %v, %d", x, e)
	}
	pvec.Keep(a, pvec.Vec{})
	pvec.Drop(a, pvec.Vec{})
	pvec.Drop(a, pvec.Vec{})
	none(t, a)
	for _, owner := range []uint32{0, 5} {
		fails(t, api.ErrRange)(pvec.Set(a, pvec.Vec{}, 0, value.Number(1), owner))
		fails(t, api.ErrRange)(pvec.Set(a, pvec.Vec{}, -1, value.Number(1), owner))
		fails(t, api.ErrRange)(pvec.Set(a, pvec.Vec{}, 1, value.Number(1), owner))
		fails(t, api.ErrRange)(pvec.Pop(a, pvec.Vec{}, owner))
	}
	none(t, a)
}

// P6.1: a vector is there until it was dropped as often as it was made and kept.
func TestKeepAndDrop(t *testing.T) {
	for _, n := range lengths()[1:] {
		for _, owner := range []uint32{0, 5} {
			a := room(t, 200)
			l := numbers(1, n)
			v := build(t, a, l, owner)
			live, refs := a.Live(), []int{a.Refs(v.Root), a.Refs(v.Tail)}
			for range 3 {
				pvec.Keep(a, v)
			}
			for range 3 {
				has(t, a, v, l)
				pvec.Drop(a, v)
			}
			has(t, a, v, l)
			if got := []int{a.Refs(v.Root), a.Refs(v.Tail)}; a.Live() != live || !slices.Equal(got, refs) {
				t.Errorf("%d values: %d cells with %v references, want %d with %v", n, a.Live(), got, live, refs)
			}
			pvec.Drop(a, v)
			none(t, a)
		}
	}
}

// P6.1: Keep adds one reference to the Root and one to the Tail, and Drop removes them.
func TestKeepCountsOnce(t *testing.T) {
	a := room(t, 200)
	for _, n := range []int{1, 32, 33, 64, 65, 1024} {
		v := build(t, a, numbers(1, n), 0)
		was := look(a, 200)
		pvec.Keep(a, v)
		now := look(a, 200)
		for i := range was.refs {
			want := was.refs[i]
			if i != 0 && i == v.Root {
				want++
			}
			if i != 0 && i == v.Tail {
				want++
			}
			if now.refs[i] != want {
				t.Errorf("%d values: cell %d has %d references after Keep, %d before", n, i, now.refs[i], was.refs[i])
			}
		}
		pvec.Drop(a, v)
		unchanged(t, a, was)
		pvec.Drop(a, v)
		none(t, a)
	}
}

// P6.2: Push, onto vectors of every length up to 1024, and Pop from there down
// to nothing; of each length a vector takes no more cells than it may.
func TestEveryLength(t *testing.T) {
	for _, owner := range []uint32{0, 9, math.MaxUint32} {
		a := room(t, 200)
		l := numbers(-500, 1024)
		v := pvec.Vec{}
		for n := range 1025 {
			has(t, a, v, l[:n])
			few(t, a, n)
			if n < 1024 {
				v = then(t, a, v, owner)(pvec.Push(a, v, l[n], owner))
			}
		}
		was := look(a, 200)
		fails(t, api.ErrLong)(pvec.Push(a, v, value.Number(1), owner))
		unchanged(t, a, was)
		has(t, a, v, l)
		for n := 1023; n >= 0; n-- {
			v = then(t, a, v, owner)(pvec.Pop(a, v, owner))
			has(t, a, v, l[:n])
			few(t, a, n)
		}
		if v != (pvec.Vec{}) {
			t.Errorf("without values a vector is %v", v)
		}
		none(t, a)
		fails(t, api.ErrRange)(pvec.Pop(a, v, owner))
	}
}

// P6.2: Set, at each position of vectors of many lengths, and at what is no position.
func TestSet(t *testing.T) {
	for _, n := range lengths() {
		for _, owner := range []uint32{0, 9} {
			a := room(t, 200)
			l := numbers(1, n)
			v := build(t, a, l, owner)
			for i := range n {
				l[i] = value.Number(int64(-i - 1))
				v = then(t, a, v, owner)(pvec.Set(a, v, i, l[i], owner))
				if n < 100 {
					has(t, a, v, l)
				}
				few(t, a, n)
			}
			has(t, a, v, l)
			was := look(a, 200)
			for _, i := range []int{math.MinInt, math.MinInt + 1, -1024, -32, -1, n, n + 1, n + 32, 1 << 32, math.MaxInt - 1, math.MaxInt} {
				fails(t, api.ErrRange)(pvec.Set(a, v, i, value.Number(1), owner))
			}
			unchanged(t, a, was)
			has(t, a, v, l)
			pvec.Drop(a, v)
			none(t, a)
		}
	}
}

// P6.2: values of all kinds, also ones that are not valid, come back as they are.
func TestValues(t *testing.T) {
	l := []value.Value{
		{}, value.Truth(false), value.Truth(true), value.Number(math.MinInt64), value.Number(math.MaxInt64),
		value.Text(""), value.Text("\x00\xff"), value.Text(strings.Repeat("x", api.MaxBytes)),
		value.Text(strings.Repeat("x", api.MaxBytes+1)), {Kind: 200, N: -1, S: "x"},
	}
	for _, owner := range []uint32{0, 3} {
		a := room(t, 50)
		v := build(t, a, l, owner)
		has(t, a, v, l)
		for i := range l {
			v = then(t, a, v, owner)(pvec.Set(a, v, i, l[len(l)-1-i], owner))
		}
		back := slices.Clone(l)
		slices.Reverse(back)
		has(t, a, v, back)
		pvec.Drop(a, v)
		none(t, a)
	}
}

// P2: the same calls return the same, whatever is done in another arena between them.
func TestSameCallsSameResults(t *testing.T) {
	run := func(other *arena.Arena) []pvec.Vec {
		a := room(t, 300)
		var l []pvec.Vec
		v, w := pvec.Vec{}, pvec.Vec{}
		for i := range 1500 {
			owner := uint32(i % 3)
			switch {
			case i%5 == 4:
				v = then(t, a, v, owner)(pvec.Pop(a, v, owner))
			case i%7 == 6:
				v = then(t, a, v, owner)(pvec.Set(a, v, v.N/2, value.Number(int64(i)), owner))
			case v.N < 1024:
				v = then(t, a, v, owner)(pvec.Push(a, v, value.Number(int64(i)), owner))
			}
			l = append(l, v)
			if next, e := pvec.Push(other, w, value.Number(1), 7); e == api.OK {
				w = next
			}
		}
		return l
	}
	if !slices.Equal(run(nil), run(room(t, 300))) {
		t.Error("the same calls return other vectors")
	}
}
