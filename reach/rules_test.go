package reach_test

import (
	"math"
	"slices"
	"testing"

	"easement/api"
	"easement/arena"
	"easement/hamt"
	"easement/hash"
	"easement/reach"
	"easement/treap"
	"easement/value"
)

// answers checks that all calls for a tree have the results that they must have.
func answers(t *testing.T, x hamt.Land, tree treap.Tree, want list, keys []value.Value) {
	t.Helper()
	ends(t, x, tree, want)
	for i, k := range keys {
		near(t, x, tree, want, k)
		to := at(keys[(i+5)%len(keys)])
		to.Open = i%4 == 0
		from := at(k)
		from.Open = i%7 == 0
		gives(t, want.page(from, to, i%65))(reach.Page(x, tree, from, to, i%65))
	}
}

// P12.1, P12.2: a land that lacks a part has only the empty tree.
func TestLackingLands(t *testing.T) {
	x := land(t, 50)
	full := build(t, x, ordinary(40))
	was := look(x)
	for _, y := range lacking(x) {
		for range 2 {
			answers(t, y, treap.Tree{}, nil, sought(ordinary(10)))
			for _, n := range []int{0, 1, 63, 64} {
				gives(t, nil)(reach.Page(y, treap.Tree{}, open()[0], open()[0], n))
			}
			for _, n := range noPage() {
				fails(t)(reach.Page(y, treap.Tree{}, open()[0], open()[0], n))
				fails(t)(reach.Page(y, full, open()[0], open()[0], n))
			}
		}
	}
	unchanged(t, x, was)
}

// Rule 3: what Page returns shares no memory with the tree, nor with what it returns another time.
func TestResultsAreApart(t *testing.T) {
	x := land(t, 80)
	l := ordinary(70)
	tree, want := build(t, x, l), sorted(l)
	was := look(x)
	for _, n := range []int{3, 20, 64} {
		first, e := reach.Page(x, tree, open()[0], open()[0], n)
		second, f := reach.Page(x, tree, open()[0], open()[0], n)
		if e != api.OK || f != api.OK || !slices.Equal(first, second) || len(first) != n {
			t.Fatalf("Page returns %d pairs, %d, and then %d, %d", len(first), e, len(second), f)
		}
		_ = append(first[:2], hamt.Pair{Key: value.Text("x")})
		_ = append(first, hamt.Pair{Key: value.Text("y")})
		clear(first[:cap(first)])
		if !slices.Equal(second, want[:n]) {
			t.Error("two pages share memory")
		}
		gives(t, want[:n])(reach.Page(x, tree, open()[0], open()[0], n))
		unchanged(t, x, was)
	}
}

// Rule 3: what was returned stays as it is when its tree is changed in place, and gone; no cell is live then.
func TestResultsLast(t *testing.T) {
	x := land(t, 80)
	l := ordinary(70)
	tree, want := build(t, x, l), sorted(l)
	got, e := reach.Page(x, tree, at(want[2].Key), open()[0], 64)
	floor, _ := reach.Floor(x, tree, want[9].Key)
	ceil, _ := reach.Ceil(x, tree, want[9].Key)
	least, greatest, _ := reach.Ends(x, tree)
	for _, k := range l {
		if tree, e = treap.Put(x, tree, k, value.Text("other"), 3); e != api.OK {
			t.Fatalf("Put returns %d", e)
		}
	}
	x.Drop(tree.Root)
	if !slices.Equal(got, want[2:66]) || floor != want[9] || ceil != want[9] || least != want[0] || greatest != want[69] {
		t.Error("the results are changed with the tree")
	}
	if x.Live() != 0 {
		t.Errorf("%d cells are live behind the last Drop", x.Live())
	}
}

// Each version of a tree has results of its own, and remains, whatever is called for another one.
func TestVersionsRemain(t *testing.T) {
	x := land(t, 300)
	l := shuffled(ordinary(80))
	tree := build(t, x, l[:70])
	all := sorted(l[:70])
	longer, e := treap.Put(x, tree, l[75], value.Number(70), 0)
	shorter, f := treap.Take(x, tree, all[9].Key, 0)
	other, g := treap.Put(x, tree, all[9].Key, value.Text("x"), 0)
	if e != api.OK || f != api.OK || g != api.OK {
		t.Fatalf("the changes return %d, %d and %d", e, f, g)
	}
	place := all.below(l[75])
	changed := slices.Clone(all)
	changed[9].Value = value.Text("x")
	was := look(x)
	keys := sought([]value.Value{all[8].Key, all[9].Key, all[10].Key, l[75]})
	for range 2 {
		answers(t, x, tree, all, keys)
		answers(t, x, longer, slices.Insert(slices.Clone(all), place, hamt.Pair{Key: l[75], Value: value.Number(70)}), keys)
		answers(t, x, shorter, slices.Delete(slices.Clone(all), 9, 10), keys)
		answers(t, x, other, changed, keys)
	}
	unchanged(t, x, was)
	for _, v := range []treap.Tree{tree, longer, shorter, other} {
		x.Drop(v.Root)
	}
	if x.Live() != 0 {
		t.Errorf("%d cells are live behind the last Drop", x.Live())
	}
}

// P2: the results depend on the pairs alone: not on the order in which they came, on the numbers of cells, or on the seed.
func TestSamePairsSameResults(t *testing.T) {
	l := ordinary(150)
	want := sorted(l)
	keys := sought(few(ordered(l)))
	for n, s := range []uint64{seed, 0, 1, 1 << 40, math.MaxUint64} {
		x := land(t, 400)
		x.Hasher = hash.New(s)
		for range 20 * n {
			x.Make(arena.Cell{})
		}
		pairs := slices.Clone(want)
		for range n {
			slices.Reverse(pairs[:100])
			slices.Reverse(pairs[:130])
		}
		tree, e := treap.Tree{}, api.OK
		for _, p := range pairs {
			if tree, e = treap.Put(x, tree, p.Key, p.Value, 3); e != api.OK {
				t.Fatalf("Put returns %d", e)
			}
		}
		for range 2 {
			answers(t, x, tree, want, keys)
		}
	}
}

// The calls may be made while the pairs of the tree are gone through.
func TestWithinPairs(t *testing.T) {
	x := land(t, 60)
	l := ordinary(50)
	tree, want := build(t, x, l), sorted(l)
	n := 0
	for p := range treap.Pairs(x, tree) {
		stands(t, x, tree, p.Key, want[n], want[n], n)
		gives(t, want[n:])(reach.Page(x, tree, at(p.Key), open()[0], 64))
		n++
	}
	if n != 50 {
		t.Errorf("there are %d pairs", n)
	}
}

// No call panics, or fails to end, for what no call returned, or with a land for which it did not.
func TestStrangersDoNotPanic(t *testing.T) {
	x := land(t, 300)
	l := ordinary(30)
	full := build(t, x, l)
	spare, _ := x.Make(arena.Cell{})
	odd, _ := x.Make(arena.Cell{Vals: l[:2], Kids: []int{0, 0}})
	x.Make(arena.Cell{Vals: l[:3], Kids: []int{odd, spare}})
	x.Make(arena.Cell{A: 1, B: 2, Vals: l[2:4], Kids: []int{spare, full.Root}})
	circle, _ := x.Make(arena.Cell{Owner: 9})
	x.Edit(circle, 9, arena.Cell{Vals: l[4:6], Kids: []int{circle, circle}})
	twice := circle
	for i := range 60 { // each holds the one before twice: there are 2^60 ways down
		twice, _ = x.Make(arena.Cell{A: uint32(i), Vals: []value.Value{value.Number(int64(i % 40)), l[3]}, Kids: []int{twice, twice}})
		x.Keep(twice)
	}
	was := look(x)
	for _, n := range []int{math.MinInt, -1, 0, 1, 30, 1025, math.MaxInt} {
		for root := range x.Live() + 3 {
			strange(x, treap.Tree{N: n, Root: root})
		}
		for _, root := range []int{math.MinInt, -1, 5000, math.MaxInt} {
			strange(x, treap.Tree{N: n, Root: root})
		}
	}
	for _, other := range append(lacking(x), hamt.Land{Arena: x.Arena, Hasher: hash.New(8)}, land(t, 9), hamt.Land{Arena: &arena.Arena{}, Hasher: &hash.Hasher{}}) {
		strange(other, full)
		strange(other, treap.Tree{N: 5, Root: 1})
	}
	unchanged(t, x, was)
}

// strange makes every call for a tree that no call returned, or not for this land.
func strange(x hamt.Land, tree treap.Tree) {
	for _, k := range []value.Value{{}, value.Number(5), value.Text("x"), {Kind: 200, N: 3, S: "x"}} {
		reach.Floor(x, tree, k)
		reach.Ceil(x, tree, k)
		reach.Below(x, tree, k)
		for _, n := range []int{-1, 0, 64, math.MaxInt} {
			reach.Page(x, tree, at(k), open()[0], n)
			reach.Page(x, tree, open()[0], at(k), n)
		}
	}
	reach.Ends(x, tree)
}
