package hamt_test

import (
	"math"
	"slices"
	"testing"

	"easement/api"
	"easement/arena"
	"easement/hamt"
	"easement/hash"
	"easement/value"
)

// lacking are lands without an arena, without a hasher, and without both.
func lacking(t *testing.T) []hamt.Land {
	t.Helper()
	x := land(t, 30)
	return []hamt.Land{{Hasher: x.Hasher}, {Arena: x.Arena}, {}}
}

// P8.1: in a land that lacks a part, Put is ErrArg and Take ErrNone; there is nothing in its only map.
func TestLackingLands(t *testing.T) {
	for i, x := range lacking(t) {
		for _, owner := range []uint32{0, 5} {
			for _, k := range ordinary(t, 8) {
				fails(t, api.ErrArg)(x.Put(hamt.Map{}, k, value.Number(1), owner))
				fails(t, api.ErrNone)(x.Take(hamt.Map{}, k, owner))
				if v, ok := x.Look(hamt.Map{}, k); v != (value.Value{}) || ok {
					t.Errorf("land %d: Look returns %v, %t", i, v, ok)
				}
			}
		}
		if x.Live() != 0 {
			t.Errorf("land %d: %d cells are live", i, x.Live())
		}
		for p := range x.Pairs(hamt.Map{}) {
			t.Errorf("land %d: there is the pair %v", i, p)
		}
	}
}

// The same holds for a map of the land with both parts, whatever its cells are.
func TestLackingLandsAndOtherMaps(t *testing.T) {
	for _, f := range families() {
		for _, n := range []int{1, 2, 30} {
			x := land(t, 400)
			l := f.make(t, n)
			m := build(t, x, l, 5)
			was := look(x, 400)
			for _, y := range []hamt.Land{{Arena: x.Arena}, {Hasher: x.Hasher}, {}} {
				for _, k := range l {
					fails(t, api.ErrArg)(y.Put(m, k, value.Number(1), 5))
					fails(t, api.ErrNone)(y.Take(m, k, 5))
				}
			}
			unchanged(t, x, was)
		}
	}
}

// The room of an arena is not asked for in a land without a hasher, which needs none.
func TestLackingHasherAndRoom(t *testing.T) {
	x := land(t, 3)
	fill(t, x, 0)
	x.Hasher = nil
	was := look(x, 3)
	fails(t, api.ErrArg)(x.Put(hamt.Map{}, value.Number(1), value.Number(1), 0))
	fails(t, api.ErrNone)(x.Take(hamt.Map{}, value.Number(1), 0))
	unchanged(t, x, was)
}

// The words of the chapter: a map of N keys takes at most 12 N cells, whatever it shares with others.
func TestCells(t *testing.T) {
	for _, f := range families() {
		t.Run(f.name, func(t *testing.T) {
			t.Parallel()
			x := land(t, 20000)
			l := f.make(t, 1024)
			m := hamt.Map{}
			check := func() {
				t.Helper()
				if n := len(reached(x, m.Root)); n > 12*m.N || x.Live() != n {
					t.Fatalf("a map of %d keys takes %d cells, and %d are live", m.N, n, x.Live())
				}
			}
			for i, k := range l {
				m = then(t, x, m, 0)(x.Put(m, k, value.Number(int64(i)), 0))
				if i < 40 || i%50 == 0 || i == 1023 {
					check()
				}
			}
			for i, k := range l {
				m = then(t, x, m, 0)(x.Take(m, k, 0))
				if i > 985 || i%50 == 0 {
					check()
				}
			}
			none(t, x)
		})
	}
}

// Rule 3: what was looked up, or yielded, is as it was when the map is changed, or gone.
func TestResultsAreApart(t *testing.T) {
	x := land(t, 500)
	l := fewHashes(t, 30)
	m, want := build(t, x, l, 5), numbered(l)
	got := slices.Collect(x.Pairs(m))
	v, ok := x.Look(m, l[7])
	kept := slices.Clone(got)
	for _, k := range l {
		m = then(t, x, m, 5)(x.Put(m, k, value.Text("x"), 5))
	}
	if !slices.Equal(got, kept) || !slices.Equal(got, pairs(x, want)) || v != value.Number(7) || !ok {
		t.Error("results are changed with the map")
	}
	clear(got)
	for _, k := range l {
		if v, ok := x.Look(m, k); v != value.Text("x") || !ok {
			t.Errorf("Look returns %v, %t", v, ok)
		}
	}
	drop(x, m)
	none(t, x)
}

// Rule 3: with an owner of 0 the map that is handed in, and each of its cells, is as it was.
func TestArgumentsRemain(t *testing.T) {
	for _, f := range families() {
		l := f.make(t, 45)
		for _, n := range []int{0, 1, 2, 14, 40} {
			for _, maker := range []uint32{0, 5} {
				x := land(t, 1000)
				m := build(t, x, l[:n], maker)
				was := look(x, 1000)
				for _, c := range changes(l[:n+4], n) {
					got, e := c.do(x, m, 0)
					if e != api.OK {
						t.Fatalf("%s of %d keys returns %d", c.name, n, e)
					}
					for i, r := range was.refs {
						d, _ := x.Get(i)
						if r == 0 {
							continue
						}
						if x.Refs(i) < r || !slices.Equal(d.Vals, was.cells[i].Vals) || !slices.Equal(d.Kids, was.cells[i].Kids) {
							t.Fatalf("%s of %d keys changes cell %d", c.name, n, i)
						}
					}
					drop(x, got)
					unchanged(t, x, was)
				}
				drop(x, m)
				none(t, x)
			}
		}
	}
}

// P2: the same calls return the same, whatever is done in another arena between them, and with whatever hasher of the seed.
func TestSameCallsSameResults(t *testing.T) {
	l := everyLevel(t, 200)
	run := func(other hamt.Land, again bool) ([]hamt.Map, []hamt.Pair) {
		x := land(t, 3000)
		var all []hamt.Map
		m := hamt.Map{}
		next := random(3)
		for i := range 600 {
			if again {
				x.Hasher = hash.New(seed)
			}
			k := l[next(len(l))]
			other.Put(hamt.Map{}, k, value.Number(1), 0)
			if w, e := x.Take(m, k, 0); e == api.OK && i%2 == 0 {
				m = then(t, x, m, 0)(w, e)
			} else {
				drop(x, w)
				m = then(t, x, m, 0)(x.Put(m, k, value.Number(int64(i)), 0))
			}
			all = append(all, m)
		}
		return all, slices.Collect(x.Pairs(m))
	}
	one, pairsOfOne := run(hamt.Land{}, false)
	two, pairsOfTwo := run(land(t, 900), true)
	if !slices.Equal(one, two) || !slices.Equal(pairsOfOne, pairsOfTwo) || len(pairsOfOne) == 0 {
		t.Error("the same calls return other maps")
	}
}

// What a map has does not depend on how it came to have it: the order of pairs is that of keys alone.
func TestSameContentSamePairs(t *testing.T) {
	for _, f := range families() {
		x := land(t, 6000)
		l := f.make(t, 200)
		m := build(t, x, l, 0)
		for _, k := range l[100:] {
			m = then(t, x, m, 0)(x.Take(m, k, 0))
		}
		in := slices.Clone(l[:100])
		shuffle(in)
		want := numbered(l[:100])
		w := hamt.Map{}
		for _, k := range in {
			w = then(t, x, w, 7)(x.Put(w, k, want[k], 7))
		}
		if !slices.Equal(slices.Collect(x.Pairs(m)), slices.Collect(x.Pairs(w))) {
			t.Errorf("%s: two maps with the same content have other pairs", f.name)
		}
	}
}

// No call panics, or fails to end, for what no call returned, or with a land for which it did not.
func TestStrangersDoNotPanic(t *testing.T) {
	x := land(t, 400)
	l := everyLevel(t, 30)
	full := build(t, x, l, 5)
	spare, _ := x.Make(arena.Cell{})
	odd, _ := x.Make(arena.Cell{B: 13, Vals: l[:3]})
	single, _ := x.Make(arena.Cell{B: 13, Vals: l[:1]})
	x.Make(arena.Cell{A: 3, Kids: []int{spare, odd}})
	x.Make(arena.Cell{A: 3, B: 12, Kids: []int{odd, single}})
	x.Make(arena.Cell{A: math.MaxUint32, Kids: []int{odd}})
	x.Make(arena.Cell{A: math.MaxUint32, Kids: []int{odd, single}})
	x.Make(arena.Cell{A: 5, Kids: []int{odd, single, odd}})
	x.Make(arena.Cell{A: 1, Kids: []int{odd, single, 0}, Vals: l[:5]})
	x.Make(arena.Cell{A: 7, B: 1, Kids: []int{0, 0, 0}})
	x.Make(arena.Cell{B: math.MaxUint32, Vals: l[:2], Kids: []int{odd}})
	x.Make(arena.Cell{B: 14, Vals: l[:2]})
	x.Make(arena.Cell{B: 13})
	circle, _ := x.Make(arena.Cell{Owner: 9})
	x.Edit(circle, 9, arena.Cell{A: 3, B: 2, Kids: []int{circle, circle}})
	x.Make(arena.Cell{A: 3, Kids: []int{circle, circle}})
	for _, n := range []int{math.MinInt, -1, 0, 1, 30, 1023, 1024, 1025, math.MaxInt} {
		for root := range x.Live() + 3 {
			strange(x, hamt.Map{N: n, Root: root}, l)
		}
		for _, root := range []int{math.MinInt, -1, 5000, math.MaxInt} {
			strange(x, hamt.Map{N: n, Root: root}, l)
		}
	}
	for _, other := range []hamt.Land{{Arena: x.Arena}, {Hasher: x.Hasher}, {}, {Arena: x.Arena, Hasher: hash.New(8)}} {
		strange(other, full, l)
	}
	has(t, x, full, numbered(l))
}

// strange makes every call for a map that no call returned, or not for this land.
func strange(x hamt.Land, m hamt.Map, l []value.Value) {
	for _, k := range append(l[:4:4], value.Number(5), value.Value{Kind: 200, N: 3, S: "x"}) {
		x.Look(m, k)
		w, _ := x.Put(m, k, value.Number(1), 0)
		drop(x, w)
		w, _ = x.Take(m, k, 0)
		drop(x, w)
	}
	for range x.Pairs(m) {
	}
}
