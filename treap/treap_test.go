package treap_test

import (
	"maps"
	"reflect"
	"slices"
	"testing"

	"easement/api"
	"easement/arena"
	"easement/hamt"
	"easement/hash"
	"easement/treap"
	"easement/value"
)

// land is a land with room for so many cells.
func land(t *testing.T, most int) hamt.Land {
	t.Helper()
	a, e := arena.New(most)
	if e != api.OK {
		t.Fatalf("New(%d) returns %d", most, e)
	}
	return hamt.Land{Arena: a, Hasher: hash.New(seed)}
}

// lacking are lands without a hasher, without an arena, and without both.
func lacking(x hamt.Land) []hamt.Land {
	return []hamt.Land{{Arena: x.Arena}, {Hasher: x.Hasher}, {}}
}

// content is what a tree must have.
type content map[value.Value]value.Value

// numbered is the content in which each key has its place as its value.
func numbered(l []value.Value) content {
	c := content{}
	for i, k := range l {
		c[k] = value.Number(int64(i))
	}
	return c
}

// with is the content with a pair.
func (c content) with(k, v value.Value) content {
	c = maps.Clone(c)
	c[k] = v
	return c
}

// without is the content without a key.
func (c content) without(k value.Value) content {
	c = maps.Clone(c)
	delete(c, k)
	return c
}

// pairs are those of a content, in increasing order of keys.
func (c content) pairs() []hamt.Pair {
	var l []hamt.Pair
	for _, k := range slices.SortedFunc(maps.Keys(c), value.Compare) {
		l = append(l, hamt.Pair{Key: k, Value: c[k]})
	}
	return l
}

// has checks that a tree has this content in as many cells, and none of some other keys.
func has(t *testing.T, x hamt.Land, tree treap.Tree, want content, absent ...value.Value) {
	t.Helper()
	if tree.N != len(want) || (tree.N == 0) != (tree == treap.Tree{}) {
		t.Fatalf("the tree is %v, want one of %d keys", tree, len(want))
	}
	for k, v := range want {
		if got, ok := treap.Look(x, tree, k); got != v || !ok {
			t.Fatalf("Look of %.80v among %d keys returns %v, %t; want %v", k, tree.N, got, ok, v)
		}
	}
	for _, k := range absent {
		if _, ok := want[k]; ok {
			continue
		}
		if got, ok := treap.Look(x, tree, k); got != (value.Value{}) || ok {
			t.Fatalf("Look of %.80v, which is not among %d keys, returns %v, %t", k, tree.N, got, ok)
		}
	}
	if got := slices.Collect(treap.Pairs(x, tree)); !slices.Equal(got, want.pairs()) {
		t.Fatalf("the pairs of %d keys are %.300v, want %.300v", tree.N, got, want.pairs())
	}
	if n := len(reached(x, tree)); n != tree.N {
		t.Fatalf("a tree of %d keys has %d cells", tree.N, n)
	}
}

// reached are the numbers of the cells of trees, each once.
func reached(x hamt.Land, trees ...treap.Tree) map[int]bool {
	seen := map[int]bool{}
	var todo []int
	for _, tree := range trees {
		todo = append(todo, tree.Root)
	}
	for i := 0; i < len(todo); i++ {
		c, ok := x.Get(todo[i])
		if ok && !seen[todo[i]] {
			seen[todo[i]] = true
			todo = append(todo, c.Kids...)
		}
	}
	return seen
}

// drop removes a reference to each of some trees.
func drop(x hamt.Land, trees ...treap.Tree) {
	for _, tree := range trees {
		x.Drop(tree.Root)
	}
}

// none checks that no cell is live.
func none(t *testing.T, x hamt.Land) {
	t.Helper()
	if x.Live() != 0 {
		t.Fatalf("%d cells are live behind the last Drop", x.Live())
	}
}

// then is the result of a change that must not fail; the tree of before is dropped if it remains.
func then(t *testing.T, x hamt.Land, tree treap.Tree, owner uint32) func(treap.Tree, api.Errno) treap.Tree {
	return func(next treap.Tree, e api.Errno) treap.Tree {
		t.Helper()
		if e != api.OK {
			t.Fatalf("a change of a tree of %d keys returns %v, %d", tree.N, next, e)
		}
		if owner == 0 {
			drop(x, tree)
		}
		return next
	}
}

// fails checks that a change returned an error, and nothing beside it.
func fails(t *testing.T, want api.Errno) func(treap.Tree, api.Errno) {
	return func(tree treap.Tree, e api.Errno) {
		t.Helper()
		if tree != (treap.Tree{}) || e != want {
			t.Errorf("a change returns %v, %d; want %d", tree, e, want)
		}
	}
}

// build is a tree of these keys, each with its place as its value, made with an owner; with 0 the trees between are dropped.
func build(t *testing.T, x hamt.Land, l []value.Value, owner uint32) treap.Tree {
	t.Helper()
	tree := treap.Tree{}
	for i, k := range l {
		tree = then(t, x, tree, owner)(treap.Put(x, tree, k, value.Number(int64(i)), owner))
	}
	return tree
}

// fill makes cells until there is so much room, and returns their numbers.
func fill(t *testing.T, x hamt.Land, left int) []int {
	t.Helper()
	var l []int
	for x.Room() > left {
		i, e := x.Make(arena.Cell{Owner: 5, A: 7})
		if e != api.OK {
			t.Fatal(e)
		}
		l = append(l, i)
	}
	return l
}

// cell is what an arena has under a number.
type cell struct {
	is   arena.Cell
	ok   bool
	refs int
}

// look is what an arena has under each number.
func look(x hamt.Land) []cell {
	var l []cell
	for i := range x.Live() + x.Room() + 1 {
		c, ok := x.Get(i)
		l = append(l, cell{c, ok, x.Refs(i)})
	}
	return l
}

// unchanged checks that an arena has what it had.
func unchanged(t *testing.T, x hamt.Land, was []cell) {
	t.Helper()
	if !reflect.DeepEqual(look(x), was) {
		t.Fatal("the cells of the arena are others than before")
	}
}

// The example of the chapter.
func TestExample(t *testing.T) {
	for _, owner := range []uint32{0, 5} {
		x := land(t, 20)
		tree := treap.Tree{}
		for _, n := range []int64{2, 1} {
			tree = then(t, x, tree, owner)(treap.Put(x, tree, value.Number(n), value.Text("x"), owner))
		}
		for p := range treap.Pairs(x, tree) {
			if p.Key != value.Number(1) {
				t.Errorf("Pairs yields %v first", p)
			}
			break
		}
		has(t, x, tree, content{value.Number(1): value.Text("x"), value.Number(2): value.Text("x")})
		drop(x, tree)
		none(t, x)
	}
}

// P11.1: Look of keys that are there and of those that aren't, Put of new ones, in
// rising, falling and mixed order, with each number of keys.
func TestPutAndLook(t *testing.T) {
	each(t, func(t *testing.T, f family) {
		l := f.make(75)
		for _, owner := range []uint32{0, 5} {
			for _, a := range arrangements() {
				x := land(t, 200)
				tree, want := treap.Tree{}, content{}
				for i, k := range a.of(l[:66]) {
					has(t, x, tree, want, l...)
					tree = then(t, x, tree, owner)(treap.Put(x, tree, k, value.Number(int64(i)), owner))
					want[k] = value.Number(int64(i))
				}
				has(t, x, tree, want, l...)
				drop(x, tree)
				none(t, x)
			}
		}
	})
}

// P11.1: the empty tree has no key, whatever the land is.
func TestLookInTheEmptyTree(t *testing.T) {
	x := land(t, 30)
	for _, y := range append(lacking(x), x) {
		for _, k := range ordinary(30) {
			if v, ok := treap.Look(y, treap.Tree{}, k); v != (value.Value{}) || ok {
				t.Errorf("Look of %.80v in the empty tree returns %v, %t", k, v, ok)
			}
		}
	}
}

// P11.1: Put of a key that is there gives it another value, and leaves the others theirs.
func TestPutAgain(t *testing.T) {
	each(t, func(t *testing.T, f family) {
		l := f.make(45)
		for _, owner := range []uint32{0, 5, 6} {
			x := land(t, 100)
			tree, want := build(t, x, l[:40], 5), numbered(l[:40])
			for i, k := range l[:40] {
				for _, v := range []value.Value{{}, value.Text("x"), k, value.Number(int64(-i)), value.Number(int64(-i))} {
					tree = then(t, x, tree, owner)(treap.Put(x, tree, k, v, owner))
					want[k] = v
				}
				has(t, x, tree, want, l...)
			}
			drop(x, tree)
			none(t, x)
		}
	})
}

// P11.1: Take of each key, in rising, falling and mixed order, down to the empty tree; then it is no more there.
func TestTake(t *testing.T) {
	each(t, func(t *testing.T, f family) {
		l := f.make(66)
		for _, owner := range []uint32{0, 5, 6} {
			for _, a := range arrangements() {
				x := land(t, 200)
				tree, want := build(t, x, l, 5), numbered(l)
				for _, k := range a.of(l) {
					tree = then(t, x, tree, owner)(treap.Take(x, tree, k, owner))
					delete(want, k)
					has(t, x, tree, want, l...)
					fails(t, api.ErrNone)(treap.Take(x, tree, k, owner))
				}
				if tree != (treap.Tree{}) {
					t.Errorf("%s: the tree without keys is %v", a.name, tree)
				}
				none(t, x)
			}
		}
	})
}

// P11.1: Take of a key that isn't there is ErrNone, and changes nothing.
func TestTakeNone(t *testing.T) {
	each(t, func(t *testing.T, f family) {
		for _, n := range []int{0, 1, 2, 3, 14, 40} {
			for _, owner := range []uint32{0, 5, 6} {
				x := land(t, 90)
				l := f.make(n + 6)
				tree := build(t, x, l[:n], 5)
				was := look(x)
				for _, k := range append(l[n:], value.Text("absent")) {
					fails(t, api.ErrNone)(treap.Take(x, tree, k, owner))
				}
				unchanged(t, x, was)
				has(t, x, tree, numbered(l[:n]), l...)
				drop(x, tree)
				none(t, x)
			}
		}
	})
}

// P11.1: with 1023 keys there may be one more; with 1024 a new one is ErrLong, and one that is there isn't.
func TestLong(t *testing.T) {
	each(t, func(t *testing.T, f family) {
		l := shuffled(f.make(1026))
		for _, owner := range []uint32{0, 5} {
			x := land(t, 2100)
			tree, want := build(t, x, l[:1023], 5), numbered(l[:1023])
			tree = then(t, x, tree, owner)(treap.Put(x, tree, l[7], value.Text("x"), owner))
			has(t, x, tree, want.with(l[7], value.Text("x")), l[1023:]...)
			for _, k := range l[1023:1025] {
				tree = then(t, x, tree, owner)(treap.Put(x, tree, k, value.Number(1023), owner))
				was := look(x)
				for _, other := range l[1023:] {
					if other != k {
						fails(t, api.ErrLong)(treap.Put(x, tree, other, value.Number(0), owner))
					}
				}
				unchanged(t, x, was)
				tree = then(t, x, tree, owner)(treap.Put(x, tree, l[500], value.Text("y"), owner))
				tree = then(t, x, tree, owner)(treap.Put(x, tree, k, value.Text("z"), owner))
				want = numbered(l[:1023]).with(l[7], value.Text("x")).with(l[500], value.Text("y"))
				has(t, x, tree, want.with(k, value.Text("z")), l[1023:]...)
				tree = then(t, x, tree, owner)(treap.Take(x, tree, k, owner))
			}
			has(t, x, tree, want, l[1023:]...)
			drop(x, tree)
			none(t, x)
		}
	})
}

// P11.1: a key differs from one of another kind, and from one with other bytes, however alike they look; any valid value is kept as it is.
func TestAlike(t *testing.T) {
	x := land(t, 50)
	long := string(make([]byte, api.MaxBytes))
	l := []value.Value{
		{}, value.Truth(false), value.Truth(true), value.Number(0), value.Number(1), value.Number(-1), value.Text(""),
		value.Text("\x00"), value.Text("\x01"), value.Text("1"), value.Text(long), value.Text(long[1:]), value.Text(long[1:] + "\x01"),
	}
	tree, want := treap.Tree{}, content{}
	for i, k := range l {
		v := l[len(l)-1-i]
		tree = then(t, x, tree, 0)(treap.Put(x, tree, k, v, 0))
		want[k] = v
		has(t, x, tree, want, l...)
	}
	for _, k := range l {
		tree = then(t, x, tree, 0)(treap.Take(x, tree, k, 0))
		delete(want, k)
		has(t, x, tree, want, l...)
	}
	none(t, x)
}

// The words of the chapter: a tree that is made with an owner has as many live cells as keys, while it grows and while it shrinks.
func TestLiveCells(t *testing.T) {
	each(t, func(t *testing.T, f family) {
		l := f.make(300)
		for _, a := range arrangements() {
			for _, owners := range [][]uint32{{5}, {1<<32 - 1}, {5, 6, 7}} {
				x := land(t, 700)
				tree := treap.Tree{}
				change := func(next treap.Tree, e api.Errno) {
					tree = then(t, x, tree, 5)(next, e)
					if x.Live() != tree.N {
						t.Fatalf("a tree of %d keys has %d live cells", tree.N, x.Live())
					}
				}
				for i, k := range a.of(l) {
					owner := owners[i%len(owners)]
					change(treap.Put(x, tree, k, value.Value{}, owner))
					change(treap.Put(x, tree, k, value.Number(int64(i)), owner))
				}
				for i, k := range shuffled(l) {
					change(treap.Take(x, tree, k, owners[i%len(owners)]))
				}
				none(t, x)
			}
		}
	})
}
