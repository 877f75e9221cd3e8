package reach_test

import (
	"reflect"
	"slices"
	"testing"

	"easement/api"
	"easement/arena"
	"easement/hamt"
	"easement/hash"
	"easement/reach"
	"easement/treap"
	"easement/value"
)

// land is a land with room for so many cells.
func land(t *testing.T, most int) hamt.Land {
	t.Helper()
	a, e := arena.New(most)
	if e != api.OK {
		t.Fatalf("New(%d) returns %d", most, e)
	}
	return hamt.Land{Arena: a, Hasher: hash.New(seed)}
}

// lacking are lands without a hasher, without an arena, and without both.
func lacking(x hamt.Land) []hamt.Land {
	return []hamt.Land{{Arena: x.Arena}, {Hasher: x.Hasher}, {}}
}

// build is a tree of these keys, each with its place as its value.
func build(t *testing.T, x hamt.Land, l []value.Value) treap.Tree {
	t.Helper()
	tree, e := treap.Tree{}, api.OK
	for _, p := range numbered(l) {
		if tree, e = treap.Put(x, tree, p.Key, p.Value, 3); e != api.OK {
			t.Fatalf("Put of %.80v returns %d", p.Key, e)
		}
	}
	return tree
}

// numbered are the pairs of keys, each with its place as its value.
func numbered(l []value.Value) []hamt.Pair {
	var out []hamt.Pair
	for i, k := range l {
		out = append(out, hamt.Pair{Key: k, Value: value.Number(int64(i))})
	}
	return out
}

// list is what a tree must have: pairs, in increasing order of their keys.
type list []hamt.Pair

// sorted is the list of keys, each with its place as its value.
func sorted(l []value.Value) list {
	return slices.SortedFunc(slices.Values(numbered(l)), func(p, q hamt.Pair) int { return order(p.Key, q.Key) })
}

// below is how many keys of a list are less than one.
func (l list) below(k value.Value) int {
	n := 0
	for _, p := range l {
		if order(p.Key, k) < 0 {
			n++
		}
	}
	return n
}

// at is the pair at a place of a list; false: there is none.
func (l list) at(i int) (hamt.Pair, bool) {
	if i < 0 || i >= len(l) {
		return hamt.Pair{}, false
	}
	return l[i], true
}

// floor is the pair of a list with the greatest key that is not greater than one.
func (l list) floor(k value.Value) (hamt.Pair, bool) {
	n := l.below(k)
	if p, ok := l.at(n); ok && p.Key == k {
		return p, true
	}
	return l.at(n - 1)
}

// ceil is the pair of a list with the least key that is not less than one.
func (l list) ceil(k value.Value) (hamt.Pair, bool) { return l.at(l.below(k)) }

// cell is what an arena has under a number.
type cell struct {
	is   arena.Cell
	ok   bool
	refs int
}

// look is what an arena has under each number.
func look(x hamt.Land) []cell {
	var l []cell
	for i := range x.Live() + x.Room() + 1 {
		c, ok := x.Get(i)
		l = append(l, cell{c, ok, x.Refs(i)})
	}
	return l
}

// unchanged checks that an arena has what it had.
func unchanged(t *testing.T, x hamt.Land, was []cell) {
	t.Helper()
	if !reflect.DeepEqual(look(x), was) {
		t.Fatal("the cells of the arena are others than before")
	}
}

// near checks Floor, Ceil and Below of a value.
func near(t *testing.T, x hamt.Land, tree treap.Tree, want list, k value.Value) {
	t.Helper()
	p, ok := reach.Floor(x, tree, k)
	if q, is := want.floor(k); p != q || ok != is {
		t.Fatalf("Floor of %.80v among %d keys returns %.80v, %t; want %.80v, %t", k, len(want), p, ok, q, is)
	}
	p, ok = reach.Ceil(x, tree, k)
	if q, is := want.ceil(k); p != q || ok != is {
		t.Fatalf("Ceil of %.80v among %d keys returns %.80v, %t; want %.80v, %t", k, len(want), p, ok, q, is)
	}
	if got := reach.Below(x, tree, k); got != want.below(k) {
		t.Fatalf("Below of %.80v among %d keys is %d, want %d", k, len(want), got, want.below(k))
	}
}

// stands checks that the neighbours of a value, and how many keys are less, are
// these; the zero pair stands for none.
func stands(t *testing.T, x hamt.Land, tree treap.Tree, k value.Value, floor, ceil hamt.Pair, below int) {
	t.Helper()
	if p, ok := reach.Floor(x, tree, k); p != floor || ok != (floor != hamt.Pair{}) {
		t.Fatalf("Floor of %.80v returns %.80v, %t; want %.80v", k, p, ok, floor)
	}
	if p, ok := reach.Ceil(x, tree, k); p != ceil || ok != (ceil != hamt.Pair{}) {
		t.Fatalf("Ceil of %.80v returns %.80v, %t; want %.80v", k, p, ok, ceil)
	}
	if got := reach.Below(x, tree, k); got != below {
		t.Fatalf("Below of %.80v is %d, want %d", k, got, below)
	}
}

// ends checks Ends.
func ends(t *testing.T, x hamt.Land, tree treap.Tree, want list) {
	t.Helper()
	least, ok := want.at(0)
	greatest, _ := want.at(len(want) - 1)
	p, q, is := reach.Ends(x, tree)
	if p != least || q != greatest || is != ok {
		t.Fatalf("Ends of %d keys are %.80v, %.80v, %t; want %.80v, %.80v, %t", len(want), p, q, is, least, greatest, ok)
	}
}

// The example of the chapter.
func TestExample(t *testing.T) {
	x := land(t, 20)
	tree := build(t, x, []value.Value{value.Number(1), value.Number(5)})
	if p, ok := reach.Floor(x, tree, value.Number(4)); p.Key != value.Number(1) || !ok {
		t.Errorf("Floor of 4 returns %v, %t", p, ok)
	}
	if p, ok := reach.Ceil(x, tree, value.Number(4)); p.Key != value.Number(5) || !ok {
		t.Errorf("Ceil of 4 returns %v, %t", p, ok)
	}
}

// P12.1: the edges of Floor, Ceil and Below, one by one, of a tree with the keys false, 10, 20, "b" and "bb".
func TestNearEdges(t *testing.T) {
	x := land(t, 20)
	tree := build(t, x, []value.Value{value.Number(20), value.Text("bb"), value.Truth(false), value.Text("b"), value.Number(10)})
	falsehood := hamt.Pair{Key: value.Truth(false), Value: value.Number(2)}
	ten := hamt.Pair{Key: value.Number(10), Value: value.Number(4)}
	twenty := hamt.Pair{Key: value.Number(20), Value: value.Number(0)}
	b := hamt.Pair{Key: value.Text("b"), Value: value.Number(3)}
	bb := hamt.Pair{Key: value.Text("bb"), Value: value.Number(1)}
	none := hamt.Pair{}
	for _, c := range []struct {
		k           value.Value
		floor, ceil hamt.Pair
		below       int
	}{
		{value.Value{}, none, falsehood, 0},
		{value.Truth(false), falsehood, falsehood, 0},
		{value.Truth(true), falsehood, ten, 1},
		{value.Number(-10), falsehood, ten, 1},
		{value.Number(9), falsehood, ten, 1},
		{value.Number(10), ten, ten, 1},
		{value.Number(11), ten, twenty, 2},
		{value.Number(19), ten, twenty, 2},
		{value.Number(20), twenty, twenty, 2},
		{value.Number(21), twenty, b, 3},
		{value.Text(""), twenty, b, 3},
		{value.Text("a"), twenty, b, 3},
		{value.Text("b"), b, b, 3},
		{value.Text("b\x00"), b, bb, 4},
		{value.Text("ba"), b, bb, 4},
		{value.Text("bb"), bb, bb, 4},
		{value.Text("bb\x00"), bb, none, 5},
		{value.Text("c"), bb, none, 5},
		{value.Value{Kind: 4}, bb, none, 5},
		{value.Value{Kind: value.Nil, N: -1}, none, falsehood, 0},
		{value.Value{Kind: value.Bool, N: 2}, falsehood, ten, 1},
		{value.Value{Kind: value.Int, N: 10, S: "x"}, ten, twenty, 2},
		{value.Value{Kind: value.Bytes, N: -1, S: "c"}, twenty, b, 3},
		{value.Value{Kind: value.Bytes, N: 1}, bb, none, 5},
	} {
		for range 2 {
			stands(t, x, tree, c.k, c.floor, c.ceil, c.below)
		}
		near(t, x, tree, list{falsehood, ten, twenty, b, bb}, c.k)
	}
}

// P12.1: the empty tree has no neighbours and no ends, whatever is searched for.
func TestNearNone(t *testing.T) {
	x := land(t, 5)
	for _, k := range strays() {
		stands(t, x, treap.Tree{}, k, hamt.Pair{}, hamt.Pair{}, 0)
	}
	if p, q, ok := reach.Ends(x, treap.Tree{}); p != (hamt.Pair{}) || q != (hamt.Pair{}) || ok {
		t.Errorf("Ends of the empty tree are %v, %v, %t", p, q, ok)
	}
}

// P12.1: the only pair of a tree is both its ends, and the neighbour of all values on that side.
func TestNearOne(t *testing.T) {
	for _, k := range ordinary(14) {
		x := land(t, 1)
		tree := build(t, x, []value.Value{k})
		only := hamt.Pair{Key: k, Value: value.Number(0)}
		if p, q, ok := reach.Ends(x, tree); p != only || q != only || !ok {
			t.Errorf("Ends of %.80v are %v, %v, %t", only, p, q, ok)
		}
		for _, s := range sought([]value.Value{k}) {
			near(t, x, tree, list{only}, s)
		}
	}
}

// P12.1: trees of every small size: Floor, Ceil and Below of all that is sought, and Ends.
func TestNearOfFew(t *testing.T) {
	each(t, func(t *testing.T, f family) {
		for n := range 40 {
			x := land(t, 50)
			l := f.make(n)
			tree, want := build(t, x, shuffled(l)), sorted(shuffled(l))
			was := look(x)
			ends(t, x, tree, want)
			for _, k := range sought(l) {
				near(t, x, tree, want, k)
			}
			unchanged(t, x, was)
		}
	})
}

// P12.1: great trees, in arenas without any room: what is beside each key, and Ends.
func TestNearOfMany(t *testing.T) {
	each(t, func(t *testing.T, f family) {
		for _, n := range []int{63, 64, 65, 200, 1023, 1024} {
			x := land(t, n)
			l := shuffled(f.make(n))
			tree, want := build(t, x, l), sorted(l)
			was := look(x)
			ends(t, x, tree, want)
			for _, k := range sought(few(ordered(l))) {
				near(t, x, tree, want, k)
			}
			unchanged(t, x, was)
		}
	})
}

// P12.1: of a great tree each key is its own neighbour, Below tells its place, and each value between two keys has these as neighbours.
func TestNearEachOfMany(t *testing.T) {
	x := land(t, 1024)
	l := numbers(1024)
	tree, want := build(t, x, shuffled(l)), sorted(shuffled(l))
	for i, p := range want {
		next, _ := want.at(i + 1)
		stands(t, x, tree, p.Key, p, p, i)
		stands(t, x, tree, value.Number(p.Key.N+1), p, next, i+1)
	}
}

// P12.1: the pair of Nil and Nil, which is the zero pair, is one as all others are.
func TestNearZeroPair(t *testing.T) {
	x := land(t, 5)
	tree, e := treap.Put(x, treap.Tree{}, value.Value{}, value.Value{}, 3)
	if e != api.OK {
		t.Fatal(e)
	}
	for _, more := range []bool{false, true} {
		last := hamt.Pair{}
		if more {
			last = hamt.Pair{Key: value.Number(2), Value: value.Number(3)}
			if tree, e = treap.Put(x, tree, last.Key, last.Value, 3); e != api.OK {
				t.Fatal(e)
			}
		}
		if p, ok := reach.Floor(x, tree, value.Number(1)); p != (hamt.Pair{}) || !ok {
			t.Errorf("Floor returns %v, %t", p, ok)
		}
		if p, ok := reach.Ceil(x, tree, value.Value{}); p != (hamt.Pair{}) || !ok {
			t.Errorf("Ceil returns %v, %t", p, ok)
		}
		if p, q, ok := reach.Ends(x, tree); p != (hamt.Pair{}) || q != last || !ok {
			t.Errorf("Ends are %v, %v, %t", p, q, ok)
		}
		if got := reach.Below(x, tree, value.Number(1)); got != 1 {
			t.Errorf("Below is %d", got)
		}
	}
}
