package hset_test

import (
	"cmp"
	"reflect"
	"slices"
	"testing"

	"easement/api"
	"easement/arena"
	"easement/hamt"
	"easement/hash"
	"easement/hset"
	"easement/value"
)

// reserved is the owner that is for this layer alone.
const reserved = 1<<32 - 2

// land is a land with room for so many cells.
func land(t *testing.T, most int) hamt.Land {
	t.Helper()
	a, e := arena.New(most)
	if e != api.OK {
		t.Fatalf("New(%d) returns %d", most, e)
	}
	return hamt.Land{Arena: a, Hasher: hash.New(seed)}
}

// lacking are lands without a hasher, without an arena, and without both.
func lacking(x hamt.Land) []hamt.Land {
	return []hamt.Land{{Arena: x.Arena}, {Hasher: x.Hasher}, {}}
}

// build is a set of values, made by layer 8 alone.
func build(t *testing.T, x hamt.Land, l []value.Value, owner uint32) hset.Set {
	t.Helper()
	m := hamt.Map{}
	for _, v := range l {
		next, e := x.Put(m, v, value.Value{}, owner)
		if e != api.OK {
			t.Fatalf("Put of %.80v returns %d", v, e)
		}
		if owner == 0 {
			x.Drop(m.Root)
		}
		m = next
	}
	return hset.Set{Map: m}
}

// before tells which of two values is ahead of the other one by their hashes, as the chapter of layer 8 orders them.
func before(x hamt.Land, a, b value.Value) int {
	g, h := x.Of(a), x.Of(b)
	for range 13 {
		if g%32 != h%32 {
			return cmp.Compare(g%32, h%32)
		}
		g, h = g/32, h/32
	}
	return value.Compare(a, b)
}

// ordered are values, each of them once, in the order of keys.
func ordered(x hamt.Land, l []value.Value) []value.Value {
	out := slices.Clone(l)
	slices.SortFunc(out, func(a, b value.Value) int { return before(x, a, b) })
	return slices.Compact(out)
}

// pairs are what a set of these values has as a map.
func pairs(x hamt.Land, l []value.Value) []hamt.Pair {
	var out []hamt.Pair
	for _, v := range ordered(x, l) {
		out = append(out, hamt.Pair{Key: v})
	}
	return out
}

// has checks, by layer 8 alone, that a set has these values, and no others.
func has(t *testing.T, x hamt.Land, s hset.Set, want []value.Value) {
	t.Helper()
	l := pairs(x, want)
	if got := slices.Collect(x.Pairs(s.Map)); s.N != len(l) || !slices.Equal(got, l) {
		t.Fatalf("a set has %d values, want %d: %.200v, want %.200v", s.N, len(l), got, l)
	}
	if s.N == 0 && s != (hset.Set{}) {
		t.Fatalf("the empty set is %v", s)
	}
}

// made is what a call returned that must have no error.
func made(t *testing.T) func(hset.Set, api.Errno) hset.Set {
	return func(s hset.Set, e api.Errno) hset.Set {
		t.Helper()
		if e != api.OK {
			t.Fatalf("the call returns %v, %d", s, e)
		}
		return s
	}
}

// fails checks that a call returned an error, and nothing beside it.
func fails(t *testing.T, want api.Errno) func(hset.Set, api.Errno) {
	return func(s hset.Set, e api.Errno) {
		t.Helper()
		if s != (hset.Set{}) || e != want {
			t.Fatalf("the call returns %v, %d; want %d", s, e, want)
		}
	}
}

// drop drops sets.
func drop(x hamt.Land, l ...hset.Set) {
	for _, s := range l {
		x.Drop(s.Root)
	}
}

// none checks that no cell is live.
func none(t *testing.T, x hamt.Land) {
	t.Helper()
	if x.Live() != 0 {
		t.Fatalf("%d cells are live behind the last Drop", x.Live())
	}
}

// fill makes cells until there is so much room, and returns their numbers.
func fill(t *testing.T, x hamt.Land, left int) []int {
	t.Helper()
	var l []int
	for x.Room() > left {
		i, e := x.Make(arena.Cell{Owner: reserved})
		if e != api.OK {
			t.Fatal(e)
		}
		l = append(l, i)
	}
	return l
}

// cell is what an arena has under a number.
type cell struct {
	is   arena.Cell
	ok   bool
	refs int
}

// look is what an arena has under each number.
func look(x hamt.Land) []cell {
	var l []cell
	for i := range x.Live() + x.Room() + 1 {
		c, ok := x.Get(i)
		l = append(l, cell{c, ok, x.Refs(i)})
	}
	return l
}

// unchanged checks that an arena has what it had.
func unchanged(t *testing.T, x hamt.Land, was []cell) {
	t.Helper()
	if !reflect.DeepEqual(look(x), was) {
		t.Fatal("the cells of the arena are others than before")
	}
}

// each calls a test with a set of each family, and checks that the set remains, and that no cell is live once it is dropped.
func each(t *testing.T, do func(t *testing.T, x hamt.Land, s hset.Set, l []value.Value)) {
	for _, f := range families(t) {
		t.Run(f.name, func(t *testing.T) {
			x := land(t, 9000)
			s := build(t, x, f.l, 5)
			do(t, x, s, f.l)
			has(t, x, s, f.l)
			drop(x, s)
			none(t, x)
		})
	}
}

// The example of the chapter.
func TestExample(t *testing.T) {
	x := land(t, 60)
	a := made(t)(hset.Add(x, hset.Set{}, value.Number(1), 0))
	b := made(t)(hset.Add(x, hset.Set{}, value.Number(2), 0))
	s := made(t)(hset.Or(x, a, b))
	if s.N != 2 {
		t.Errorf("Or of {1} and {2} has %d elements", s.N)
	}
	drop(x, a, b, s)
	none(t, x)
}

// P10.1: Has of values that are in the set, and of others; it changes nothing.
func TestHas(t *testing.T) {
	each(t, func(t *testing.T, x hamt.Land, s hset.Set, l []value.Value) {
		was := look(x)
		for _, v := range l {
			if !hset.Has(x, s, v) {
				t.Errorf("%.80v is not in the set", v)
			}
		}
		for _, v := range append(extra(40), mixed(t, 1060)[1040:]...) {
			if hset.Has(x, s, v) {
				t.Errorf("%.80v is in the set", v)
			}
		}
		for _, v := range chained(t) {
			if want := slices.Contains(l, v); hset.Has(x, s, v) != want {
				t.Errorf("Has of %v, whose hash others have in part, is %t", v, !want)
			}
		}
		unchanged(t, x, was)
	})
}

// P10.1: the empty set has no value, in lands that lack a part too.
func TestHasOfTheEmptySet(t *testing.T) {
	x := land(t, 30)
	for _, y := range append(lacking(x), x) {
		for _, v := range mixed(t, 30) {
			if hset.Has(y, hset.Set{}, v) {
				t.Errorf("%.80v is in the empty set", v)
			}
		}
	}
}

// P10.1: the values of the map don't matter to Has and Values, and Add and Take treat it as any set.
func TestSetOfAMap(t *testing.T) {
	x := land(t, 300)
	l := mixed(t, 20)
	m := hamt.Map{}
	for i, k := range l {
		m, _ = x.Put(m, k, value.Truth(i%2 == 0), 5)
	}
	s := hset.Set{Map: m}
	for _, v := range l {
		if !hset.Has(x, s, v) {
			t.Errorf("%v is not in the set", v)
		}
	}
	if got := slices.Collect(hset.Values(x, s)); !slices.Equal(got, ordered(x, l)) {
		t.Errorf("Values yields %v", got)
	}
	for _, v := range l[1:] {
		s = made(t)(hset.Add(x, s, v, 5))
	}
	s = made(t)(hset.Take(x, s, l[0], 5))
	has(t, x, s, l[1:])
	drop(x, s)
	none(t, x)
}

// P10.1: Add of new values and of those that are there; without an owner the set remains.
func TestAdd(t *testing.T) {
	each(t, func(t *testing.T, x hamt.Land, s hset.Set, l []value.Value) {
		for _, v := range append(extra(3), l[:min(len(l), 3)]...) {
			if len(l) == 1024 && !slices.Contains(l, v) {
				continue
			}
			want := append(slices.Clone(l), v)
			w := made(t)(hset.Add(x, s, v, 0))
			has(t, x, w, want)
			has(t, x, s, l)
			u := made(t)(hset.Add(x, w, v, 0))
			has(t, x, u, want)
			drop(x, w, u)
		}
	})
}

// P10.1: with 1023 values there may be one more, and with 1024 none that is new.
func TestAddWhereASetIsGreat(t *testing.T) {
	l := mixed(t, 1024)
	for _, owner := range []uint32{0, 5, 6} {
		x := land(t, 9000)
		s := build(t, x, l[:1023], 5)
		step := func(v value.Value) {
			next := made(t)(hset.Add(x, s, v, owner))
			if owner == 0 {
				drop(x, s)
			}
			s = next
		}
		step(l[0])
		step(l[1022])
		has(t, x, s, l[:1023])
		step(l[1023])
		has(t, x, s, l)
		was := look(x)
		for _, v := range extra(9) {
			fails(t, api.ErrLong)(hset.Add(x, s, v, owner))
		}
		unchanged(t, x, was)
		for _, v := range []value.Value{l[0], l[14], l[1023]} {
			step(v)
		}
		has(t, x, s, l)
		drop(x, s)
		none(t, x)
	}
}

// P10.1: Take of values that are there, of others, and of the last one.
func TestTake(t *testing.T) {
	each(t, func(t *testing.T, x hamt.Land, s hset.Set, l []value.Value) {
		was := look(x)
		for _, owner := range []uint32{0, 5, 6} {
			for _, v := range extra(4) {
				fails(t, api.ErrNone)(hset.Take(x, s, v, owner))
			}
		}
		unchanged(t, x, was)
		for i := range min(len(l), 20) {
			w := made(t)(hset.Take(x, s, l[i], 0))
			has(t, x, w, slices.Delete(slices.Clone(l), i, i+1))
			has(t, x, s, l)
			fails(t, api.ErrNone)(hset.Take(x, w, l[i], 0))
			drop(x, w)
		}
	})
}

// P10.1: a set is taken apart down to its last value, with an owner and without one; the empty set takes no cell.
func TestTakeTheLast(t *testing.T) {
	for _, f := range families(t) {
		for _, owner := range []uint32{0, 5, 6} {
			x := land(t, 9000)
			s := build(t, x, f.l, 5)
			for i, v := range f.l {
				next := made(t)(hset.Take(x, s, v, owner))
				if owner == 0 {
					drop(x, s)
				}
				s = next
				if left := len(f.l) - i - 1; left < 4 || left == 100 {
					has(t, x, s, f.l[i+1:])
				}
			}
			none(t, x)
			fails(t, api.ErrNone)(hset.Take(x, s, value.Value{}, owner))
		}
	}
}

// P10.1: Add and Take are Put, of Nil, and Take: through many calls they return the
// same map and the same error, and do the same to the arena, whatever its room is.
func TestAddAndTakeAreThoseOfMaps(t *testing.T) {
	for first := range uint64(30) {
		next := random(first)
		l := mixed(t, 3+next(60))
		x := land(t, 1+int(first)*5)
		y := land(t, 1+int(first)*5)
		owner := []uint32{0, 5, reserved - 1, 1<<32 - 1}[first%4]
		s := hset.Set{}
		for i := range 300 {
			v := l[next(len(l))]
			w, e := hset.Add(x, s, v, owner)
			m, f := y.Put(s.Map, v, value.Value{}, owner)
			if i%3 == 0 {
				drop(x, w)
				y.Drop(m.Root)
				if e == api.OK && owner != 0 {
					s = hset.Set{}
				}
				w, e = hset.Take(x, s, v, owner)
				m, f = y.Take(s.Map, v, owner)
			}
			if w.Map != m || e != f {
				t.Fatalf("the call returns %v, %d; that of the map %v, %d", w, e, m, f)
			}
			unchanged(t, x, look(y))
			if e == api.OK && owner == 0 {
				drop(x, s)
				drop(y, s)
			}
			if e == api.OK {
				s = w
			}
		}
	}
}

// P10.1: their errors: ErrFull without room, and ErrArg and ErrNone in a land that lacks a part; nothing changes.
func TestErrors(t *testing.T) {
	x := land(t, 3000)
	l := mixed(t, 1024)
	s, few := build(t, x, l, 5), build(t, x, l[:30], 5)
	fill(t, x, 0)
	was := look(x)
	for _, v := range extra(3) {
		fails(t, api.ErrFull)(hset.Add(x, hset.Set{}, v, 0))
		fails(t, api.ErrFull)(hset.Add(x, few, v, 0))
		fails(t, api.ErrFull)(hset.Add(x, few, v, 5))
		fails(t, api.ErrLong)(hset.Add(x, s, v, 0))
		fails(t, api.ErrNone)(hset.Take(x, few, v, 0))
	}
	fails(t, api.ErrFull)(hset.Add(x, few, l[0], 0))
	fails(t, api.ErrFull)(hset.Add(x, few, l[0], 6))
	fails(t, api.ErrFull)(hset.Take(x, few, l[29], 0))
	for _, y := range lacking(x) {
		for _, w := range []hset.Set{{}, few, s} {
			fails(t, api.ErrArg)(hset.Add(y, w, l[0], 5))
			fails(t, api.ErrArg)(hset.Add(y, w, extra(1)[0], 0))
			fails(t, api.ErrNone)(hset.Take(y, w, l[0], 5))
		}
	}
	unchanged(t, x, was)
	has(t, x, few, l[:30])
}

// P10.1: Values yields the values in the order of keys, each time it is gone through, and changes nothing.
func TestValues(t *testing.T) {
	each(t, func(t *testing.T, x hamt.Land, s hset.Set, l []value.Value) {
		was := look(x)
		values := hset.Values(x, s)
		for range 3 {
			if got := slices.Collect(values); !slices.Equal(got, ordered(x, l)) {
				t.Errorf("Values yields %.200v", got)
			}
		}
		for v := range values {
			for w := range values {
				if v == w {
					break
				}
			}
		}
		unchanged(t, x, was)
	})
}

// P10.1: the values of chain come in the order in which it has them.
func TestValuesOfChain(t *testing.T) {
	x := land(t, 100)
	l := chained(t)
	for first := range uint64(20) {
		s := build(t, x, shuffled(l, first), 0)
		if got := slices.Collect(hset.Values(x, s)); !slices.Equal(got, l) {
			t.Errorf("Values yields %v", got)
		}
		drop(x, s)
	}
	none(t, x)
}

// P10.1: a sequence that is ended at any value yields no other one.
func TestValuesEnded(t *testing.T) {
	each(t, func(t *testing.T, x hamt.Land, s hset.Set, l []value.Value) {
		want := ordered(x, l)
		for _, end := range []int{0, 1, len(l) / 3, len(l) / 2, len(l) - 2, len(l) - 1} {
			if end < 0 || end >= len(l) {
				continue
			}
			var got []value.Value
			hset.Values(x, s)(func(v value.Value) bool {
				got = append(got, v)
				return len(got) <= end
			})
			if !slices.Equal(got, want[:end+1]) {
				t.Errorf("ended at place %d of %d, Values yields %d values", end, len(l), len(got))
			}
		}
	})
}

// P10.1: the empty set has no values, in lands that lack a part too.
func TestValuesOfTheEmptySet(t *testing.T) {
	x := land(t, 30)
	for _, y := range append(lacking(x), x) {
		for v := range hset.Values(y, hset.Set{}) {
			t.Errorf("the empty set has the value %v", v)
		}
	}
}
