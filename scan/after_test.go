package scan_test

import (
	"math"
	"slices"
	"testing"

	"easement/api"
	"easement/hamt"
	"easement/scan"
	"easement/value"
)

// behind are those of the pairs whose keys follow a key, so many at most.
func behind(x hamt.Land, l []hamt.Pair, k value.Value, n int) []hamt.Pair {
	from := 0
	for _, p := range l {
		if order(x, p.Key, k) <= 0 {
			from++
		}
	}
	return slice(l, from, n)
}

// some are the first and last of the pairs, and others between.
func some(l []hamt.Pair) []hamt.Pair {
	var out []hamt.Pair
	for i, p := range l {
		if i < 35 || i+3 > len(l) || i%97 == 0 {
			out = append(out, p)
		}
	}
	return out
}

// P9.1: After of keys that are in the map, and of those that are not, with each edge of n.
func TestAfter(t *testing.T) {
	each(t, func(t *testing.T, x hamt.Land, m hamt.Map, want []hamt.Pair) {
		keys := append(chained(t), value.Text("absent"), value.Number(-7), value.Value{}, value.Truth(true))
		for _, p := range some(want) {
			keys = append(keys, p.Key)
		}
		for _, k := range keys {
			for _, n := range []int{0, 1, 2, 63, 64} {
				gives(t, behind(x, want, k, n))(scan.After(x, m, k, n))
			}
			for _, n := range noPage() {
				fails(t)(scan.After(x, m, k, n))
			}
		}
	})
}

// P9.1: After of each key of chain, of the maps that have, of its keys, each second one, one alone, all but one, or those on one side.
func TestAfterChain(t *testing.T) {
	all := chained(t)
	var maps [][]value.Value
	for i := range all {
		maps = append(maps, all[i:i+1], slices.Concat(all[:i], all[i+1:]), all[:i], all[i:])
	}
	var odd, even []value.Value
	for i, k := range all {
		if i%2 == 0 {
			even = append(even, k)
		} else {
			odd = append(odd, k)
		}
	}
	for _, l := range append(maps, odd, even) {
		x := land(t, 400)
		m := build(t, x, l)
		was := look(x)
		for i, k := range all {
			var want []hamt.Pair
			for _, p := range numbered(l) {
				if slices.Index(all, p.Key) > i {
					want = append(want, p)
				}
			}
			for _, n := range []int{0, 1, 64} {
				gives(t, slice(want, 0, n))(scan.After(x, m, k, n))
			}
		}
		unchanged(t, x, was)
	}
}

// P9.1: the edges of After, one by one: the
// map has the keys 5 to 25 of chain, of which 10 is left out.
func TestAfterEdges(t *testing.T) {
	x := land(t, 400)
	all := chained(t)
	m := build(t, x, slices.Concat(all[5:10], all[11:26]))
	pairs := numbered(slices.Concat(all[5:10], all[11:26]))
	for _, c := range []struct {
		name string
		k    value.Value
		n    int
		want []hamt.Pair
		e    api.Errno
	}{
		{"ahead of all", all[4], 64, pairs, api.OK},
		{"ahead of all", all[4], 1, pairs[:1], api.OK},
		{"ahead of all", all[4], 0, nil, api.OK},
		{"the first one", all[5], 64, pairs[1:], api.OK},
		{"in the map", all[7], 1, pairs[3:4], api.OK},
		{"in the map", all[7], 64, pairs[3:], api.OK},
		{"in the map", all[7], 0, nil, api.OK},
		{"in the map", all[7], -1, nil, api.ErrArg},
		{"in the map", all[7], 65, nil, api.ErrArg},
		{"not in the map", all[10], 1, pairs[5:6], api.OK},
		{"not in the map", all[10], 64, pairs[5:], api.OK},
		{"not in the map", all[10], 0, nil, api.OK},
		{"not in the map", all[10], -1, nil, api.ErrArg},
		{"not in the map", all[10], 65, nil, api.ErrArg},
		{"among those with one hash", all[15], 2, pairs[10:12], api.OK},
		{"the last but one", all[24], 64, pairs[19:], api.OK},
		{"the last one", all[25], 64, nil, api.OK},
		{"the last one", all[25], 1, nil, api.OK},
		{"the last one", all[25], 0, nil, api.OK},
		{"the last one", all[25], -1, nil, api.ErrArg},
		{"the last one", all[25], 65, nil, api.ErrArg},
		{"behind all", all[26], 64, nil, api.OK},
		{"behind all", all[26], 1, nil, api.OK},
		{"behind all", all[26], 0, nil, api.OK},
		{"behind all", all[26], -1, nil, api.ErrArg},
		{"behind all", all[26], 65, nil, api.ErrArg},
		{"behind all", all[30], math.MaxInt, nil, api.ErrArg},
		{"behind all", all[30], math.MinInt, nil, api.ErrArg},
	} {
		for range 2 {
			got, e := scan.After(x, m, c.k, c.n)
			if !slices.Equal(got, c.want) || e != c.e {
				t.Errorf("After of a key that is %s, %d pairs, returns %v, %d; want %v, %d", c.name, c.n, got, e, c.want, c.e)
			}
		}
	}
}

// P9.1: the pages that follow, each, the last key of the one before are all the pairs, none twice.
func TestPagesAfterAreAll(t *testing.T) {
	each(t, func(t *testing.T, x hamt.Land, m hamt.Map, want []hamt.Pair) {
		for size := 1; size <= 64; size += 21 {
			got, e := scan.Page(x, m, 0, size)
			for last := 0; e == api.OK && len(got) > last && last < 1024; {
				last = len(got)
				var l []hamt.Pair
				l, e = scan.After(x, m, got[last-1].Key, size)
				got = append(got, l...)
			}
			gives(t, want)(got, e)
		}
	})
}

// P9.1: a key that is no more in the map still tells where the next page begins.
func TestAfterTaken(t *testing.T) {
	x := land(t, 1500)
	l := mixed(t, 60)
	m, left := build(t, x, l), sorted(x, l)
	for i := 0; len(left) > 0; i++ {
		at := i * 7 % len(left)
		k := left[at].Key
		next, e := x.Take(m, k, 0)
		if e != api.OK {
			t.Fatalf("Take returns %d", e)
		}
		left = slices.Delete(left, at, at+1)
		gives(t, left[at:][:min(64, len(left)-at)])(scan.After(x, next, k, 64))
		x.Drop(m.Root)
		m = next
	}
}
