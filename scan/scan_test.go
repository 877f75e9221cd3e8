package scan_test

import (
	"cmp"
	"math"
	"reflect"
	"slices"
	"testing"

	"easement/api"
	"easement/arena"
	"easement/hamt"
	"easement/hash"
	"easement/scan"
	"easement/value"
)

// land is a land with room for so many cells.
func land(t *testing.T, most int) hamt.Land {
	t.Helper()
	a, e := arena.New(most)
	if e != api.OK {
		t.Fatalf("New(%d) returns %d", most, e)
	}
	return hamt.Land{Arena: a, Hasher: hash.New(seed)}
}

// build is a map of these keys, each with its place as its value.
func build(t *testing.T, x hamt.Land, l []value.Value) hamt.Map {
	t.Helper()
	m, e := hamt.Map{}, api.OK
	for _, p := range numbered(l) {
		if m, e = x.Put(m, p.Key, p.Value, 3); e != api.OK {
			t.Fatalf("Put of %v returns %d", p.Key, e)
		}
	}
	return m
}

// order compares two keys as the chapter of layer 8 orders them.
func order(x hamt.Land, a, b value.Value) int {
	g, h := x.Of(a), x.Of(b)
	for range 13 {
		if g%32 != h%32 {
			return cmp.Compare(g%32, h%32)
		}
		g, h = g/32, h/32
	}
	return value.Compare(a, b)
}

// sorted are the pairs of keys, each with its place as its value, in the order of keys.
func sorted(x hamt.Land, l []value.Value) []hamt.Pair {
	out := numbered(l)
	slices.SortFunc(out, func(p, q hamt.Pair) int { return order(x, p.Key, q.Key) })
	return out
}

// each calls a test for a map of each family, with its pairs in their order, and
// checks that the calls leave the land as it was: full, so that no cell could be made.
func each(t *testing.T, do func(t *testing.T, x hamt.Land, m hamt.Map, want []hamt.Pair)) {
	for _, f := range families(t) {
		t.Run(f.name, func(t *testing.T) {
			x := land(t, 13000)
			m := build(t, x, f.keys)
			for x.Room() > 0 {
				x.Make(arena.Cell{})
			}
			was := look(x)
			do(t, x, m, sorted(x, f.keys))
			unchanged(t, x, was)
		})
	}
}

// cell is what an arena has under a number.
type cell struct {
	is   arena.Cell
	ok   bool
	refs int
}

// look is what an arena has under each number.
func look(x hamt.Land) []cell {
	var l []cell
	for i := range x.Live() + x.Room() + 1 {
		c, ok := x.Get(i)
		l = append(l, cell{c, ok, x.Refs(i)})
	}
	return l
}

// unchanged checks that an arena has what it had.
func unchanged(t *testing.T, x hamt.Land, was []cell) {
	t.Helper()
	if !reflect.DeepEqual(look(x), was) {
		t.Error("the cells of the arena are others than before")
	}
}

// gives checks that a call returned these pairs, and no error.
func gives(t *testing.T, want []hamt.Pair) func([]hamt.Pair, api.Errno) {
	return func(got []hamt.Pair, e api.Errno) {
		t.Helper()
		if !slices.Equal(got, want) || e != api.OK {
			t.Errorf("the call returns %d, %.200v; want %.200v", e, got, want)
		}
	}
}

// fails checks that a call returned ErrArg, and nothing beside it.
func fails(t *testing.T) func([]hamt.Pair, api.Errno) {
	return func(got []hamt.Pair, e api.Errno) {
		t.Helper()
		if len(got) != 0 || e != api.ErrArg {
			t.Errorf("the call returns %d, %.200v; want %d", e, got, api.ErrArg)
		}
	}
}

// noPage are numbers that no page has as many pairs as.
func noPage() []int {
	return []int{-1, -2, -64, math.MinInt32, math.MinInt + 1, math.MinInt, 65, 66, 1024, 1 << 32, 1<<32 + 1, math.MaxInt - 1, math.MaxInt}
}

// The example of the chapter.
func TestExample(t *testing.T) {
	x := land(t, 60)
	m := build(t, x, ordinary(3))
	l, e := scan.Page(x, m, 1, 64)
	if len(l) != 2 || e != api.OK {
		t.Errorf("Page returns %v, %d", l, e)
	}
}

// P9.1: Compare of keys whose hashes part at each level or are one, both ways round, and of each with itself.
func TestCompareChain(t *testing.T) {
	x := land(t, 1)
	l := chained(t)
	for i, a := range l {
		for j, b := range l {
			if got, want := scan.Compare(x, a, b), cmp.Compare(i, j); got != want {
				t.Errorf("Compare of the keys %d and %d is %d, want %d", i, j, got, want)
			}
		}
	}
}

// P9.1: the edges of Compare, one by one.
func TestCompareEdges(t *testing.T) {
	x := land(t, 1)
	l := chained(t)
	for _, c := range []struct {
		name string
		a, b value.Value
		want int
	}{
		{"equal keys", l[4], l[4], 0},
		{"equal keys of no bytes", value.Text(""), value.Text(""), 0},
		{"Nil and Nil", value.Value{}, value.Value{}, 0},
		{"lesser at the first digit", l[0], l[13], -1},
		{"greater at the first digit", l[30], l[13], 1},
		{"lesser at the second digit", l[1], l[13], -1},
		{"greater at a later digit", l[24], l[13], 1},
		{"lesser at the last digit", l[12], l[13], -1},
		{"greater at the last digit", l[18], l[13], 1},
		{"lesser at the first digit, greater at the last", l[0], l[12], -1},
		{"one hash, a lesser value", l[13], l[17], -1},
		{"one hash, a greater value", l[17], l[16], 1},
	} {
		for range 2 {
			if got := scan.Compare(x, c.a, c.b); got != c.want {
				t.Errorf("%s: Compare is %d, want %d", c.name, got, c.want)
			}
			if got := scan.Compare(x, c.b, c.a); got != -c.want {
				t.Errorf("%s: the other way round Compare is %d, want %d", c.name, got, -c.want)
			}
		}
	}
}

// P9.1: Compare of many keys of all kinds is as the words say, with each seed.
func TestCompareMany(t *testing.T) {
	l := mixed(t, 300)
	other := 0
	for _, s := range []uint64{seed, 0, 1, math.MaxUint64} {
		x := land(t, 1)
		x.Hasher = hash.New(s)
		for _, a := range l {
			for _, b := range l {
				got, want := scan.Compare(x, a, b), order(x, a, b)
				if got != want {
					t.Fatalf("with the seed %d, Compare of %.50v and %.50v is %d, want %d", s, a, b, got, want)
				}
				if got != value.Compare(a, b) {
					other++
				}
			}
		}
	}
	if other < 1000 {
		t.Errorf("only %d keys are in another order than their values", other)
	}
}

// P9.1: the order of Compare is that in which layer 8 yields keys.
func TestCompareAgreesWithPairs(t *testing.T) {
	each(t, func(t *testing.T, x hamt.Land, m hamt.Map, want []hamt.Pair) {
		if got := slices.Collect(x.Pairs(m)); !slices.Equal(got, want) {
			t.Fatal("layer 8 yields the keys in another order")
		}
		for i := range len(want) - 1 {
			if got := scan.Compare(x, want[i].Key, want[i+1].Key); got != -1 {
				t.Fatalf("Compare of key %d and the next one is %d", i, got)
			}
		}
	})
}
