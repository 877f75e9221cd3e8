package object_test

import (
	"fmt"
	"math"
	"reflect"
	"slices"
	"testing"

	"easement/api"
	"easement/arena"
	"easement/hamt"
	"easement/hash"
	"easement/hset"
	"easement/object"
	"easement/pvec"
	"easement/slice"
	"easement/treap"
	"easement/value"
)

// seed is that of all hashers here, but where another one is named.
const seed = 7

// land is a land with room for so many cells.
func land(t *testing.T, most int) hamt.Land {
	t.Helper()
	a, e := arena.New(most)
	if e != api.OK {
		t.Fatalf("New(%d) returns %d", most, e)
	}
	return hamt.Land{Arena: a, Hasher: hash.New(seed)}
}

// lacking are lands without a hasher, without an arena, and without both.
func lacking(x hamt.Land) []hamt.Land {
	return []hamt.Land{{Arena: x.Arena}, {Hasher: x.Hasher}, {}}
}

// kinds are all that there are.
func kinds() []object.Kind {
	return []object.Kind{object.Vector, object.Map, object.Set, object.Sorted}
}

// noKinds are some that there are not.
func noKinds() []object.Kind { return []object.Kind{0, 5, 6, 16, 128, 254, 255} }

// build is an object that has these, made by the layers below alone.
func build(t *testing.T, x hamt.Land, p plain, owner uint32) object.Object {
	t.Helper()
	o := object.Object{Kind: p.kind}
	for _, v := range p.list {
		made, e := pvec.Push(x.Arena, o.Vec, v, owner)
		o = built(t, x, o, object.Object{Kind: p.kind, Vec: made}, e, owner)
	}
	for _, q := range p.pairs(x) {
		made, e := object.Object{Kind: p.kind}, api.OK
		switch p.kind {
		case 2:
			made.Map, e = x.Put(o.Map, q.Key, q.Value, owner)
		case 3:
			made.Set, e = hset.Add(x, o.Set, q.Key, owner)
		case 4:
			made.Tree, e = treap.Put(x, o.Tree, q.Key, q.Value, owner)
		}
		o = built(t, x, o, made, e, owner)
	}
	return o
}

// built is what was made, in the place of what it was made of.
func built(t *testing.T, x hamt.Land, was, made object.Object, e api.Errno, owner uint32) object.Object {
	t.Helper()
	if e != api.OK {
		t.Fatalf("an object of %d values or keys can't be built: %d", was.Len(), e)
	}
	if owner == 0 {
		unhold(x, was)
	}
	return made
}

// unhold drops what an object holds, by the layers below alone.
func unhold(x hamt.Land, o object.Object) {
	pvec.Drop(x.Arena, o.Vec)
	x.Drop(o.Map.Root)
	x.Drop(o.Set.Root)
	x.Drop(o.Tree.Root)
}

// hold keeps what an object holds, by the layers below alone.
func hold(x hamt.Land, o object.Object) {
	pvec.Keep(x.Arena, o.Vec)
	x.Keep(o.Map.Root)
	x.Keep(o.Set.Root)
	x.Keep(o.Tree.Root)
}

// has checks, by the layers below alone, that an object has this, and nothing else.
func has(t *testing.T, x hamt.Land, o object.Object, p plain) {
	t.Helper()
	only := object.Object{Kind: p.kind}
	var list []value.Value
	var pairs []hamt.Pair
	switch p.kind {
	case 1:
		only.Vec = o.Vec
		list = slice.All(x.Arena, o.Vec)
	case 2:
		only.Map = o.Map
		pairs = slices.Collect(x.Pairs(o.Map))
	case 3:
		only.Set = o.Set
		pairs = slices.Collect(x.Pairs(o.Set.Map))
	case 4:
		only.Tree = o.Tree
		pairs = slices.Collect(treap.Pairs(x, o.Tree))
	}
	if o != only || o.Len() != p.len() {
		t.Fatalf("the object is %v, not one of the kind %d that has %d values or keys", o, p.kind, p.len())
	}
	if !slices.Equal(list, p.list) || !slices.Equal(pairs, p.pairs(x)) {
		t.Fatalf("the object of the kind %d has %.300v %.300v, want %.300v %.300v", p.kind, list, pairs, p.list, p.pairs(x))
	}
	if p.len() == 0 && o != (object.Object{Kind: p.kind}) {
		t.Fatalf("the empty object is %v", o)
	}
}

// none checks that no cell is live.
func none(t *testing.T, x hamt.Land) {
	t.Helper()
	if x.Live() != 0 {
		t.Fatalf("%d cells are live behind the last Drop", x.Live())
	}
}

// fill makes cells until there is so much room, and returns their numbers.
func fill(t *testing.T, x hamt.Land, left int) []int {
	t.Helper()
	var l []int
	for x.Room() > left {
		i, e := x.Make(arena.Cell{Owner: 99})
		if e != api.OK {
			t.Fatal(e)
		}
		l = append(l, i)
	}
	return l
}

// cell is what an arena has under a number.
type cell struct {
	is   arena.Cell
	ok   bool
	refs int
}

// look is what an arena has under each number.
func look(x hamt.Land) []cell {
	var l []cell
	for i := range x.Live() + x.Room() + 1 {
		c, ok := x.Get(i)
		l = append(l, cell{c, ok, x.Refs(i)})
	}
	return l
}

// unchanged checks that an arena has what it had.
func unchanged(t *testing.T, x hamt.Land, was []cell) {
	t.Helper()
	if !reflect.DeepEqual(look(x), was) {
		t.Fatal("the cells of the arena are others than before")
	}
}

// each calls a test with an object of each kind and of each of these lengths; it
// must remain. Behind the last Drop no cell may be live.
func each(t *testing.T, do func(t *testing.T, x hamt.Land, o object.Object, p plain), lengths ...int) {
	t.Parallel()
	for _, k := range kinds() {
		for _, n := range lengths {
			t.Run(fmt.Sprintf("kind %d of %d", k, n), func(t *testing.T) {
				t.Parallel()
				x, p := land(t, 6*n+60), filled(k, n)
				o := build(t, x, p, 5)
				do(t, x, o, p)
				has(t, x, o, p)
				unhold(x, o)
				none(t, x)
			})
		}
	}
}

// The example of the chapter.
func TestExample(t *testing.T) {
	x := land(t, 20)
	o, e := object.New(object.Map)
	if e != api.OK {
		t.Fatal(e)
	}
	made, e := object.Write(x, o, object.Op{Code: object.Push, Val: value.Number(1)}, 0)
	if made != (object.Object{}) || e != api.ErrKind {
		t.Errorf("Push onto an empty map returns %v, %d", made, e)
	}
}

// The numbers of the kinds and of the codes.
func TestNumbers(t *testing.T) {
	if !slices.Equal(kinds(), []object.Kind{1, 2, 3, 4}) {
		t.Errorf("the kinds are %v", kinds())
	}
	codes := []object.Code{object.Count, object.Get, object.Has, object.Page, object.Floor, object.Ceil, object.Push, object.Pop, object.Put, object.Take}
	if !slices.Equal(codes, []object.Code{1, 2, 3, 4, 5, 6, 16, 17, 18, 19}) {
		t.Errorf("the codes are %v", codes)
	}
}

// P13.1: Changes of each code, whatever else the operation has.
func TestChanges(t *testing.T) {
	for c := range 256 {
		want := c == 16 || c == 17 || c == 18 || c == 19
		for _, op := range []object.Op{{}, {Key: value.Number(16), Val: value.Text("x"), From: 17, N: 18}} {
			op.Code = object.Code(c)
			if op.Changes() != want {
				t.Errorf("Changes of the code %d is %t", c, !want)
			}
		}
	}
}

// P13.1: New of each kind, and of kinds that there are not.
func TestNew(t *testing.T) {
	for k := range 256 {
		want, fault := object.Object{Kind: object.Kind(k)}, api.OK
		if k < 1 || k > 4 {
			want, fault = object.Object{}, api.ErrArg
		}
		for range 2 {
			if o, e := object.New(object.Kind(k)); o != want || e != fault || o.Len() != 0 {
				t.Errorf("New(%d) returns %v, %d", k, o, e)
			}
		}
	}
}

// P13.1: Len is that of what the kind has, and of nothing else.
func TestLen(t *testing.T) {
	each(t, func(t *testing.T, x hamt.Land, o object.Object, p plain) {
		if o.Len() != p.len() {
			t.Errorf("Len is %d, want %d", o.Len(), p.len())
		}
	}, 0, 1, 2, 31, 32, 33, 200, 1023, 1024)
	o := object.Object{Vec: pvec.Vec{N: 1}, Map: hamt.Map{N: 2}, Set: hset.Set{Map: hamt.Map{N: 3}}, Tree: treap.Tree{N: 4}}
	for k := range 256 {
		want := k
		if k > 4 {
			want = 0
		}
		o.Kind = object.Kind(k)
		if o.Len() != want {
			t.Errorf("Len of the kind %d is %d", k, o.Len())
		}
	}
}

// P13.1: Cost of each kind, with the edges of n.
func TestCost(t *testing.T) {
	for _, c := range []struct{ n, vector, other, sorted int }{
		{math.MinInt, 0, 0, 0},
		{-1 << 32, 0, 0, 0},
		{-16, 0, 0, 0},
		{-1, 0, 0, 0},
		{0, 0, 0, 0},
		{1, 3, 12, 1},
		{2, 3, 24, 2},
		{15, 3, 180, 15},
		{16, 4, 192, 16},
		{17, 4, 204, 17},
		{31, 4, 372, 31},
		{32, 5, 384, 32},
		{33, 5, 396, 33},
		{1023, 66, 12276, 1023},
		{1024, 67, 12288, 1024},
		{1025, 67, 12300, 1025},
		{1 << 20, 65539, 12582912, 1048576},
		{math.MaxInt32, 134217730, 25769803764, 2147483647},
	} {
		for range 2 {
			got := []int{object.Cost(object.Vector, c.n), object.Cost(object.Map, c.n), object.Cost(object.Set, c.n), object.Cost(object.Sorted, c.n)}
			if want := []int{c.vector, c.other, c.other, c.sorted}; !slices.Equal(got, want) {
				t.Errorf("Cost with %d is %v by kind, want %v", c.n, got, want)
			}
		}
		for _, k := range noKinds() {
			if got := object.Cost(k, c.n); got != c.other {
				t.Errorf("Cost of the kind %d with %d is %d", k, c.n, got)
			}
		}
	}
}

// P13.1: no object takes more cells than Cost, while it is made, and while it is taken apart.
func TestCostIsEnough(t *testing.T) {
	t.Parallel()
	for _, k := range kinds() {
		for _, owner := range []uint32{0, 5} {
			x := land(t, 20000)
			o := object.Object{Kind: k}
			step := func(op object.Op) {
				t.Helper()
				made, e := object.Write(x, o, op, owner)
				o = built(t, x, o, made, e, owner)
				if most := object.Cost(k, o.Len()); x.Live() > most {
					t.Fatalf("an object of the kind %d takes %d cells for %d values or keys, at most %d", k, x.Live(), o.Len(), most)
				}
			}
			for _, v := range ordinary(1024) {
				if k == object.Vector {
					step(object.Op{Code: object.Push, Val: v})
				} else {
					step(object.Op{Code: object.Put, Key: v, Val: v})
				}
			}
			for _, v := range ordinary(1024) {
				if k == object.Vector {
					step(object.Op{Code: object.Pop})
				} else {
					step(object.Op{Code: object.Take, Key: v})
				}
			}
			none(t, x)
		}
	}
}

// P13.1: Keep adds one reference, and Drop removes one, as the layers below do.
func TestKeepAndDrop(t *testing.T) {
	each(t, func(t *testing.T, x hamt.Land, o object.Object, p plain) {
		once := look(x)
		hold(x, o)
		twice := look(x)
		hold(x, o)
		thrice := look(x)
		object.Drop(x, o)
		unchanged(t, x, twice)
		object.Drop(x, o)
		unchanged(t, x, once)
		object.Keep(x, o)
		unchanged(t, x, twice)
		object.Keep(x, o)
		unchanged(t, x, thrice)
		has(t, x, o, p)
		if p.len() > 0 && reflect.DeepEqual(once, twice) {
			t.Error("Keep of the layers below changes nothing")
		}
		unhold(x, o)
		object.Drop(x, o)
	}, 0, 1, 2, 31, 32, 33, 64, 65, 200, 1024)
}

// P13.1: behind the last Drop an object takes no cell.
func TestLastDrop(t *testing.T) {
	for _, k := range kinds() {
		for _, n := range []int{0, 1, 2, 33, 65, 300, 1024} {
			x := land(t, 3000)
			other := build(t, x, filled(k, 40), 0)
			was := x.Live()
			o := build(t, x, filled(k, n), 0)
			object.Keep(x, o)
			object.Drop(x, o)
			has(t, x, o, filled(k, n))
			object.Drop(x, o)
			if x.Live() != was {
				t.Errorf("%d cells of an object of the kind %d are live behind the last Drop", x.Live()-was, k)
			}
			has(t, x, other, filled(k, 40))
			object.Drop(x, other)
			none(t, x)
		}
	}
}
