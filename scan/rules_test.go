package scan_test

import (
	"math"
	"slices"
	"testing"

	"easement/api"
	"easement/arena"
	"easement/hamt"
	"easement/hash"
	"easement/scan"
	"easement/value"
)

// calls are those that return pairs, with arguments for which they have some.
func calls(k value.Value) map[string]func(x hamt.Land, m hamt.Map) ([]hamt.Pair, api.Errno) {
	return map[string]func(hamt.Land, hamt.Map) ([]hamt.Pair, api.Errno){
		"Page":  func(x hamt.Land, m hamt.Map) ([]hamt.Pair, api.Errno) { return scan.Page(x, m, 3, 20) },
		"After": func(x hamt.Land, m hamt.Map) ([]hamt.Pair, api.Errno) { return scan.After(x, m, k, 20) },
		"All":   func(x hamt.Land, m hamt.Map) ([]hamt.Pair, api.Errno) { return scan.All(x, m, 20) },
	}
}

// Rule 3: what a call returns shares no memory with the map, nor with what it returns another time.
func TestResultsAreApart(t *testing.T) {
	x := land(t, 900)
	l := mixed(t, 70)
	m, want := build(t, x, l), sorted(x, l)
	was := look(x)
	for name, call := range calls(want[0].Key) {
		one, e := call(x, m)
		two, f := call(x, m)
		if e != api.OK || f != api.OK || len(one) < 20 || !slices.Equal(one, two) {
			t.Fatalf("%s returns %d of the pairs, %d, and then %d, %d", name, len(one), e, len(two), f)
		}
		kept := slices.Clone(two)
		_ = append(one[:5], hamt.Pair{Key: value.Text("x")})
		_ = append(one, hamt.Pair{Key: value.Text("y")})
		clear(one[:cap(one)])
		if !slices.Equal(two, kept) {
			t.Errorf("two results of %s share memory", name)
		}
		gives(t, kept)(call(x, m))
		unchanged(t, x, was)
	}
}

// Rule 3: what was returned stays as it is when its map is changed in place, and gone.
func TestResultsLast(t *testing.T) {
	for name := range calls(value.Value{}) {
		x := land(t, 900)
		l := mixed(t, 70)
		m, want := build(t, x, l), sorted(x, l)
		got, e := calls(want[0].Key)[name](x, m)
		kept := slices.Clone(got)
		if e != api.OK || len(kept) < 20 || !slices.Contains(want, kept[0]) {
			t.Fatalf("%s returns %v, %d", name, got, e)
		}
		for _, k := range l {
			if m, e = x.Put(m, k, value.Text("other"), 3); e != api.OK {
				t.Fatalf("Put returns %d", e)
			}
		}
		x.Drop(m.Root)
		if !slices.Equal(got, kept) || x.Live() != 0 {
			t.Errorf("the result of %s is gone with its map, or %d cells are not", name, x.Live())
		}
	}
}

// Each version of a map has pages of its own, and remains, whatever is called for another one.
func TestVersionsRemain(t *testing.T) {
	x := land(t, 3000)
	l := mixed(t, 80)
	m := build(t, x, l[:70])
	longer, e := x.Put(m, l[75], value.Number(70), 0)
	shorter, f := x.Take(m, l[0], 0)
	if e != api.OK || f != api.OK {
		t.Fatalf("Put returns %d, and Take %d", e, f)
	}
	was := look(x)
	versions := []struct {
		m    hamt.Map
		want []hamt.Pair
	}{
		{m, sorted(x, l[:70])},
		{longer, sorted(x, append(slices.Clone(l[:70]), l[75]))},
		{shorter, slices.DeleteFunc(sorted(x, l[:70]), func(p hamt.Pair) bool { return p.Key == l[0] })},
	}
	for range 2 {
		for _, v := range versions {
			gives(t, v.want)(scan.All(x, v.m, 9))
			gives(t, slice(v.want, 30, 64))(scan.Page(x, v.m, 30, 64))
			gives(t, behind(x, v.want, l[75], 64))(scan.After(x, v.m, l[75], 64))
			gives(t, behind(x, v.want, l[0], 64))(scan.After(x, v.m, l[0], 64))
		}
	}
	unchanged(t, x, was)
	for _, v := range versions {
		x.Drop(v.m.Root)
	}
	if x.Live() != 0 {
		t.Errorf("%d cells are live behind the last Drop", x.Live())
	}
}

// P2: the pairs depend on the keys and the seed alone, not on the order in which they came, on the numbers of cells, or on the hasher.
func TestSameContentSamePairs(t *testing.T) {
	l := mixed(t, 150)
	x, y := land(t, 2000), land(t, 4000)
	want := sorted(x, l)
	m, w := build(t, x, l), hamt.Map{}
	for range 20 {
		y.Make(arena.Cell{})
	}
	for _, p := range slices.Backward(numbered(l)) {
		next, e := y.Put(w, p.Key, p.Value, 0)
		if e != api.OK {
			t.Fatalf("Put returns %d", e)
		}
		y.Drop(w.Root)
		w = next
	}
	for i, p := range want {
		y.Hasher = hash.New(seed)
		for range 2 {
			gives(t, slice(want, i, 64))(scan.Page(x, m, i, 64))
			gives(t, slice(want, i, 64))(scan.Page(y, w, i, 64))
			gives(t, slice(want, i+1, 64))(scan.After(x, m, p.Key, 64))
			gives(t, slice(want, i+1, 64))(scan.After(y, w, p.Key, 64))
		}
	}
	gives(t, want)(scan.All(x, m, 64))
	gives(t, want)(scan.All(y, w, 1))
}

// P2: with another seed the same keys have another order.
func TestSeed(t *testing.T) {
	l := ordinary(40)
	x := land(t, 1000)
	y := hamt.Land{Arena: x.Arena, Hasher: hash.New(8)}
	m, w := build(t, x, l), build(t, y, l)
	gives(t, sorted(x, l))(scan.All(x, m, 64))
	gives(t, sorted(y, l))(scan.All(y, w, 64))
	gives(t, behind(y, sorted(y, l), l[3], 64))(scan.After(y, w, l[3], 64))
	if slices.Equal(sorted(x, l), sorted(y, l)) {
		t.Error("the order is the same with both seeds")
	}
}

// No call panics, or fails to end, for what no call returned, or with a land that lacks a part.
func TestStrangersDoNotPanic(t *testing.T) {
	x := land(t, 400)
	full := build(t, x, chained(t))
	x.Make(arena.Cell{})
	x.Make(arena.Cell{A: math.MaxUint32, Kids: []int{1}})
	x.Make(arena.Cell{B: 13, Vals: ordinary(3)})
	was := look(x)
	for _, y := range []hamt.Land{x, {}, {Arena: x.Arena}, {Hasher: x.Hasher}, {Arena: x.Arena, Hasher: hash.New(8)}} {
		for _, n := range []int{math.MinInt, -1, 0, 1, 1025, math.MaxInt} {
			for _, root := range []int{math.MinInt, -1, 0, 1, full.Root, x.Live() - 2, x.Live() - 1, x.Live(), 5000, math.MaxInt} {
				strange(y, hamt.Map{N: n, Root: root})
			}
		}
	}
	unchanged(t, x, was)
}

// strange makes every call for a map that no call returned, or not for this land, and for keys that are not valid.
func strange(x hamt.Land, m hamt.Map) {
	for _, k := range []value.Value{{}, {Kind: 200, N: 3, S: "x"}, value.Text(string(make([]byte, 70000)))} {
		scan.Compare(x, k, value.Number(1))
		scan.Compare(x, value.Value{Kind: 201}, k)
		scan.After(x, m, k, 64)
	}
	scan.Page(x, m, -1, 64)
	scan.Page(x, m, math.MaxInt, 0)
	scan.All(x, m, 1)
}
