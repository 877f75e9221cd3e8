package treap_test

import (
	"math"
	"slices"
	"testing"

	"easement/api"
	"easement/arena"
	"easement/hamt"
	"easement/hash"
	"easement/treap"
	"easement/value"
)

// P11.1: in a land that lacks a part, Put is ErrArg and Take ErrNone, and nothing changes, whatever room there is, and whatever tree of another land is handed in.
func TestLackingLands(t *testing.T) {
	for _, n := range []int{0, 1, 30, 1024} {
		for _, room := range []int{0, 5} {
			x := land(t, 1100)
			l := ordinary(n)
			tree := build(t, x, l, 5)
			fill(t, x, room)
			was := look(x)
			for _, y := range lacking(x) {
				for _, k := range ordinary(20) {
					for _, owner := range []uint32{0, 5} {
						fails(t, api.ErrArg)(treap.Put(y, treap.Tree{}, k, value.Number(1), owner))
						fails(t, api.ErrNone)(treap.Take(y, treap.Tree{}, k, owner))
						fails(t, api.ErrArg)(treap.Put(y, tree, k, value.Number(1), owner))
						fails(t, api.ErrNone)(treap.Take(y, tree, k, owner))
					}
				}
			}
			unchanged(t, x, was)
			has(t, x, tree, numbered(l))
		}
	}
}

// Rule 3: what was looked up, or yielded, is as it was when the tree is changed in place, or gone.
func TestResultsAreApart(t *testing.T) {
	x := land(t, 100)
	l := fewHashes(30)
	tree, want := build(t, x, l, 5), numbered(l)
	got := slices.Collect(treap.Pairs(x, tree))
	v, ok := treap.Look(x, tree, l[7])
	kept := slices.Clone(got)
	for _, k := range l {
		tree = then(t, x, tree, 5)(treap.Put(x, tree, k, value.Text("x"), 5))
	}
	if !slices.Equal(got, kept) || !slices.Equal(got, want.pairs()) || v != value.Number(7) || !ok {
		t.Error("results are changed with the tree")
	}
	clear(got)
	for _, k := range l {
		if v, ok := treap.Look(x, tree, k); v != value.Text("x") || !ok {
			t.Errorf("Look returns %v, %t", v, ok)
		}
	}
	drop(x, tree)
	none(t, x)
}

// Rule 3: with an owner of 0 the tree that is handed in, and each of its cells, is as it was.
func TestArgumentsRemain(t *testing.T) {
	each(t, func(t *testing.T, f family) {
		l := f.make(45)
		for _, n := range []int{0, 1, 2, 14, 40} {
			for _, maker := range []uint32{0, 5} {
				x := land(t, 200)
				tree := build(t, x, l[:n], maker)
				was := look(x)
				for _, c := range changes(l[:n+4], n) {
					got := then(t, x, tree, 5)(c.do(x, tree, 0))
					for i, r := range was {
						d, _ := x.Get(i)
						if !r.ok {
							continue
						}
						if x.Refs(i) < r.refs || !slices.Equal(d.Vals, r.is.Vals) || !slices.Equal(d.Kids, r.is.Kids) {
							t.Fatalf("%s of %d keys changes cell %d", c.name, n, i)
						}
					}
					drop(x, got)
					unchanged(t, x, was)
				}
				drop(x, tree)
				none(t, x)
			}
		}
	})
}

// Rule 3: Look and Pairs change nothing.
func TestReadingChangesNothing(t *testing.T) {
	each(t, func(t *testing.T, f family) {
		x := land(t, 60)
		l := f.make(50)
		tree := build(t, x, l[:40], 5)
		was := look(x)
		has(t, x, tree, numbered(l[:40]), l...)
		unchanged(t, x, was)
	})
}

// P2: the same calls return the same, whatever is done in another arena between them, and with whatever hasher of the seed.
func TestSameCallsSameResults(t *testing.T) {
	l := fewHashes(150)
	run := func(other hamt.Land, again bool) ([]treap.Tree, []hamt.Pair) {
		x := land(t, 400)
		var all []treap.Tree
		tree := treap.Tree{}
		next := random(3)
		for i := range 600 {
			if again {
				x.Hasher = hash.New(seed)
			}
			k := l[next(len(l))]
			treap.Put(other, treap.Tree{}, k, value.Number(1), 0)
			if w, e := treap.Take(x, tree, k, 0); e == api.OK && i%2 == 0 {
				tree = then(t, x, tree, 0)(w, e)
			} else {
				drop(x, w)
				tree = then(t, x, tree, 0)(treap.Put(x, tree, k, value.Number(int64(i)), 0))
			}
			all = append(all, tree)
		}
		return all, slices.Collect(treap.Pairs(x, tree))
	}
	one, pairsOfOne := run(hamt.Land{}, false)
	two, pairsOfTwo := run(land(t, 900), true)
	if !slices.Equal(one, two) || !slices.Equal(pairsOfOne, pairsOfTwo) || len(pairsOfOne) == 0 {
		t.Error("the same calls return other trees")
	}
}

// P11.1: whatever the seed is, a tree has what was put.
func TestEverySeed(t *testing.T) {
	for _, n := range []uint64{0, 1, 1 << 40, math.MaxUint64} {
		x := land(t, 100)
		x.Hasher = hash.New(n)
		l := ordinary(60)
		tree := build(t, x, l[:50], 0)
		has(t, x, tree, numbered(l[:50]), l...)
		drop(x, tree)
		none(t, x)
	}
}

// No call panics, or fails to end, for what no call returned, or with a land for which it did not.
func TestStrangersDoNotPanic(t *testing.T) {
	x := land(t, 300)
	l := fewHashes(30)
	full := build(t, x, l, 5)
	spare, _ := x.Make(arena.Cell{})
	odd, _ := x.Make(arena.Cell{Vals: l[:2], Kids: []int{0, 0}})
	few, _ := x.Make(arena.Cell{Vals: l[:1], Kids: []int{0, 0}})
	x.Make(arena.Cell{Vals: l[:3], Kids: []int{odd, few}})
	x.Make(arena.Cell{Vals: l[:2], Kids: []int{odd, few, spare}})
	x.Make(arena.Cell{Vals: l[2:4], Kids: []int{odd, odd}})
	x.Make(arena.Cell{A: 1, B: 2, Vals: l[2:4], Kids: []int{spare, full.Root}})
	x.Make(arena.Cell{A: math.MaxUint32, B: math.MaxUint32, Vals: l[:2]})
	x.Make(arena.Cell{Kids: []int{odd, odd}})
	circle, _ := x.Make(arena.Cell{Owner: 9})
	x.Edit(circle, 9, arena.Cell{Vals: l[4:6], Kids: []int{circle, circle}})
	twice := circle
	for i := range 60 { // each holds the one before twice: there are 2^60 ways down
		twice, _ = x.Make(arena.Cell{A: uint32(i), Vals: []value.Value{value.Number(int64(i % 40)), l[3]}, Kids: []int{twice, twice}})
		x.Keep(twice)
	}
	for _, n := range []int{math.MinInt, -1, 0, 1, 30, 1023, 1024, 1025, math.MaxInt} {
		for root := range x.Live() + 3 {
			strange(x, treap.Tree{N: n, Root: root}, l)
		}
		for _, root := range []int{math.MinInt, -1, 5000, math.MaxInt} {
			strange(x, treap.Tree{N: n, Root: root}, l)
		}
	}
	for _, other := range append(lacking(x), hamt.Land{Arena: x.Arena, Hasher: hash.New(8)}, land(t, 9)) {
		strange(other, full, l)
	}
	has(t, x, full, numbered(l))
}

// strange makes every call for a tree that no call returned, or not for this land.
func strange(x hamt.Land, tree treap.Tree, l []value.Value) {
	for _, k := range append(l[:4:4], value.Number(5), value.Value{Kind: 200, N: 3, S: "x"}) {
		treap.Look(x, tree, k)
		w, _ := treap.Put(x, tree, k, value.Number(1), 0)
		drop(x, w)
		w, _ = treap.Take(x, tree, k, 0)
		drop(x, w)
	}
	for range treap.Pairs(x, tree) {
	}
}

// shape tells the keys of a tree as its cells hold them.
func shape(x hamt.Land, root int) []value.Value {
	c, ok := x.Get(root)
	if !ok {
		return []value.Value{value.Text("nothing")}
	}
	return slices.Concat(c.Vals[:1], shape(x, c.Kids[0]), shape(x, c.Kids[1]))
}

// The keys of a tree alone tell its shape, so that what other keys were there ahead of them can't make its ways longer.
func TestShape(t *testing.T) {
	each(t, func(t *testing.T, f family) {
		l := f.make(90)
		x := land(t, 400)
		want := shape(x, build(t, x, l[:60], 5).Root)
		for _, a := range arrangements() {
			tree := build(t, x, a.of(l), 5)
			for _, k := range a.of(l[60:]) {
				tree = then(t, x, tree, 5)(treap.Take(x, tree, k, 5))
			}
			if !slices.Equal(shape(x, tree.Root), want) {
				t.Errorf("%s: the tree has another shape", a.name)
			}
			drop(x, tree)
		}
	})
}
