package object_test

import (
	"fmt"
	"math"
	"slices"
	"testing"

	"easement/api"
	"easement/arena"
	"easement/hamt"
	"easement/hash"
	"easement/hset"
	"easement/object"
	"easement/pvec"
	"easement/treap"
	"easement/value"
)

// all are operations with each code, and with ones that there are not.
func all() []object.Op {
	var l []object.Op
	for c := range 21 {
		for _, k := range []value.Value{{}, value.Number(0), value.Number(-1), value.Number(5), value.Text("k"), {Kind: 200, N: 3, S: "x"}} {
			for _, n := range []int{0, 1, 64, -1, 65} {
				l = append(l, object.Op{Code: object.Code(c), Key: k, Val: value.Text("x"), From: n / 2, N: n})
			}
		}
	}
	return l
}

// In a land that lacks an arena, objects have nothing, and none can be changed; without
// a hasher that is so for maps, sets and sorted maps.
func TestLackingLands(t *testing.T) {
	x := land(t, 100)
	l := small(t, x)
	was := look(x)
	for i, y := range lacking(x) {
		for _, o := range l {
			for _, op := range all() {
				if o.Kind == object.Vector && i == 0 {
					continue
				}
				made, e := object.Write(y, o, op, 5)
				if e == api.OK {
					t.Fatalf("Write of the kind %d with %v returns %v", o.Kind, op, made)
				}
				fails(t, e)(made, e)
			}
			if o.Kind == object.Vector {
				continue
			}
			empty := object.Object{Kind: o.Kind}
			for _, op := range all() {
				want, e := plain{kind: o.Kind}.read(x, op)
				reads(t, y, empty, op, want, e)
			}
			fails(t, api.ErrArg)(object.Write(y, empty, object.Op{Code: object.Put, Key: value.Number(1)}, 0))
			fails(t, api.ErrArg)(object.Write(y, o, object.Op{Code: object.Put, Key: value.Number(1)}, 5))
			fails(t, api.ErrNone)(object.Write(y, empty, object.Op{Code: object.Take, Key: value.Number(1)}, 0))
			fails(t, api.ErrNone)(object.Write(y, o, object.Op{Code: object.Take, Key: value.Number(1)}, 5))
			fails(t, api.ErrKind)(object.Write(y, o, object.Op{Code: object.Push, Val: value.Number(1)}, 5))
			fails(t, api.ErrKind)(object.Write(y, o, object.Op{Code: object.Pop}, 5))
		}
		if y.Arena == nil {
			for _, o := range l {
				object.Keep(y, o)
				object.Drop(y, o)
			}
		}
	}
	unchanged(t, x, was)
}

// A vector needs no hasher.
func TestVectorWithoutHasher(t *testing.T) {
	x := land(t, 100)
	y := hamt.Land{Arena: x.Arena}
	o, p := object.Object{Kind: object.Vector}, plain{kind: 1}
	for i := range 50 {
		op := object.Op{Code: object.Push, Val: value.Number(int64(i))}
		made, e := object.Write(y, o, op, 5)
		if e != api.OK {
			t.Fatal(e)
		}
		o, p = made, after(t, p, op)
		readsAs(t, y, o, p, object.Op{Code: object.Page, From: i / 2, N: 64})
		readsAs(t, y, o, p, object.Op{Code: object.Get, Key: value.Number(int64(i))})
	}
	has(t, x, o, p)
	object.Keep(y, o)
	object.Drop(y, o)
	object.Drop(y, o)
	none(t, x)
}

// Rule 3: what Read returns shares no memory with the object, nor with what it returns another time.
func TestResultsAreApart(t *testing.T) {
	each(t, func(t *testing.T, x hamt.Land, o object.Object, p plain) {
		was := look(x)
		for _, op := range all() {
			op.From = min(op.From, p.len())
			want, _ := p.read(x, op)
			first, e := object.Read(x, o, op)
			second, _ := object.Read(x, o, op)
			if e == api.OK && len(first) > 0 {
				_ = append(first[:len(first)-1], value.Text("other"))
			}
			_ = append(first, value.Text("more"))
			clear(first[:cap(first)])
			if !slices.Equal(second, want) {
				t.Fatalf("two results of Read with %v share memory", op)
			}
			readsAs(t, x, o, p, op)
		}
		unchanged(t, x, was)
	}, 1, 2, 33, 70)
}

// Rule 3: what was returned stays as it is when its object is changed in place, and gone.
func TestResultsLast(t *testing.T) {
	for _, k := range kinds() {
		x, p := land(t, 400), filled(k, 70)
		o := build(t, x, p, 5)
		var got, want [][]value.Value
		for _, op := range all() {
			l, _ := object.Read(x, o, op)
			w, _ := p.read(x, op)
			got, want = append(got, l), append(want, w)
		}
		for i, v := range ordinary(70) {
			op := object.Op{Code: object.Put, Key: v, Val: value.Text("other")}
			if k == object.Vector {
				op.Key = value.Number(int64(i))
			}
			made, e := object.Write(x, o, op, 5)
			if e != api.OK {
				t.Fatal(e)
			}
			o = made
		}
		object.Drop(x, o)
		if !slices.EqualFunc(got, want, slices.Equal[[]value.Value]) {
			t.Errorf("results for the kind %d are changed with the object", k)
		}
		none(t, x)
	}
}

// Rule 3: without an owner what is handed in, and each of its cells, is as it was; so it is with an error.
func TestArgumentsRemain(t *testing.T) {
	each(t, func(t *testing.T, x hamt.Land, o object.Object, p plain) {
		was := look(x)
		for _, op := range all() {
			kept, same := o, op
			made, e := object.Write(x, o, op, 0)
			if e == api.OK {
				for i, c := range was {
					d, _ := x.Get(i)
					if c.ok && (x.Refs(i) < c.refs || !slices.Equal(d.Vals, c.is.Vals) || !slices.Equal(d.Kids, c.is.Kids)) {
						t.Fatalf("Write with %v changes cell %d", op, i)
					}
				}
				object.Drop(x, made)
			}
			unchanged(t, x, was)
			if o != kept || op != same {
				t.Fatal("an argument is changed")
			}
		}
	}, 0, 1, 2, 33, 70)
}

// P2: the same calls return the same, whatever is done in another land between them, and with whatever hasher of the seed.
func TestSameCallsSameResults(t *testing.T) {
	run := func(other hamt.Land, again bool) string {
		x := land(t, 900)
		l := []object.Object{{Kind: 1}, {Kind: 2}, {Kind: 3}, {Kind: 4}}
		next := random(3)
		text := ""
		for range 800 {
			if again {
				x.Hasher = hash.New(seed)
			}
			i := next(4)
			op := object.Op{Code: object.Code(next(21)), Key: ordinary(40)[next(40)], Val: ordinary(9)[next(9)], From: next(9), N: next(65)}
			object.Write(other, object.Object{Kind: kinds()[i]}, op, 0)
			got, e := object.Read(x, l[i], op)
			text += fmt.Sprint(got, e)
			if made, e := object.Write(x, l[i], op, 5); e == api.OK {
				l[i] = made
			}
			text += fmt.Sprint(l[i])
		}
		return text
	}
	if run(hamt.Land{}, false) != run(land(t, 5000), true) {
		t.Error("the same calls return something else")
	}
}

// Whatever the seed is, an object has what was put, and its pages are in the order of its kind.
func TestEverySeed(t *testing.T) {
	for _, n := range []uint64{0, 1, 1 << 40, math.MaxUint64} {
		for _, k := range kinds() {
			x, p := land(t, 400), filled(k, 70)
			x.Hasher = hash.New(n)
			o := build(t, x, p, 0)
			for _, from := range []int{0, 1, 6, 35, 70} {
				readsAs(t, x, o, p, object.Op{Code: object.Page, From: from, N: 64})
			}
			for _, v := range ordinary(90) {
				readsAs(t, x, o, p, object.Op{Code: object.Has, Key: v})
				readsAs(t, x, o, p, object.Op{Code: object.Get, Key: v})
			}
			object.Drop(x, o)
			none(t, x)
		}
	}
}

// No call panics, or fails to end, for what no call returned, or with a land for which it did not.
func TestStrangersDoNotPanic(t *testing.T) {
	x := land(t, 200)
	l := small(t, x)
	spare, _ := x.Make(arena.Cell{Vals: ordinary(3)})
	x.Make(arena.Cell{Vals: ordinary(2), Kids: []int{spare, 0}})
	lands := append(lacking(x), x, land(t, 9), hamt.Land{Arena: &arena.Arena{}, Hasher: &hash.Hasher{}})
	for _, y := range lands {
		for k := range object.Kind(7) {
			for _, o := range l {
				o.Kind = k
				strange(y, o)
			}
			for _, n := range []int{math.MinInt, -1, 0, 1, 64, 1024, 1025, math.MaxInt} {
				for _, root := range []int{math.MinInt, -1, 0, 1, spare, spare + 1, 5000} {
					m := hamt.Map{N: n, Root: root}
					strange(y, object.Object{Kind: k, Vec: pvec.Vec{N: n, Root: root, Tail: 1}, Map: m, Set: hset.Set{Map: m}, Tree: treap.Tree{N: n, Root: root}})
				}
			}
		}
	}
}

// strange makes every call for an object that no call returned, or not for this land.
func strange(x hamt.Land, o object.Object) {
	o.Len()
	for _, op := range all() {
		object.Read(x, o, op)
		if made, e := object.Write(x, o, op, 0); e == api.OK {
			object.Drop(x, made)
		}
	}
	object.Keep(x, o)
	object.Drop(x, o)
}
