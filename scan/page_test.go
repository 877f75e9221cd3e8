package scan_test

import (
	"math"
	"testing"

	"easement/api"
	"easement/hamt"
	"easement/scan"
)

// slice is what is left of pairs without the first ones, so many at most.
func slice(l []hamt.Pair, from, n int) []hamt.Pair {
	l = l[min(max(from, 0), len(l)):]
	return l[:min(n, len(l))]
}

// P9.1: Page at and beyond all ends, of maps of all sizes.
func TestPage(t *testing.T) {
	each(t, func(t *testing.T, x hamt.Land, m hamt.Map, want []hamt.Pair) {
		n := len(want)
		for _, from := range []int{
			math.MinInt, math.MinInt + 1, math.MinInt32, -1025, -65, -64, -2, -1, 0, 1, 2, n / 2, n - 65, n - 64, n - 63, n - 1,
			n, n + 1, n + 64, 1025, math.MaxInt32, 1 << 32, 1<<32 + 1, math.MaxInt - 64, math.MaxInt - 1, math.MaxInt,
		} {
			for _, size := range []int{0, 1, 2, 31, 63, 64} {
				gives(t, slice(want, from, size))(scan.Page(x, m, from, size))
			}
			for _, size := range noPage() {
				fails(t)(scan.Page(x, m, from, size))
			}
		}
	})
}

// P9.1: the edges of Page, one by one, of a map with 70 pairs.
func TestPageEdges(t *testing.T) {
	x := land(t, 900)
	l := mixed(t, 70)
	m, all := build(t, x, l), sorted(x, l)
	for _, c := range []struct {
		from, n int
		want    []hamt.Pair
		e       api.Errno
	}{
		{0, -1, nil, api.ErrArg},
		{0, 0, nil, api.OK},
		{0, 64, all[:64], api.OK},
		{0, 65, nil, api.ErrArg},
		{0, math.MinInt, nil, api.ErrArg},
		{0, math.MaxInt, nil, api.ErrArg},
		{-1, 0, nil, api.OK},
		{-1, 2, all[:2], api.OK},
		{-1, 64, all[:64], api.OK},
		{-64, 64, all[:64], api.OK},
		{1, 1, all[1:2], api.OK},
		{1, 64, all[1:65], api.OK},
		{6, 64, all[6:], api.OK},
		{7, 64, all[7:], api.OK},
		{69, 64, all[69:], api.OK},
		{69, 0, nil, api.OK},
		{70, 64, nil, api.OK},
		{70, 0, nil, api.OK},
		{71, 64, nil, api.OK},
		{71, -1, nil, api.ErrArg},
		{math.MinInt, 64, all[:64], api.OK},
		{math.MinInt, 1, all[:1], api.OK},
		{math.MaxInt, 64, nil, api.OK},
		{math.MaxInt, 65, nil, api.ErrArg},
		{math.MinInt, math.MinInt, nil, api.ErrArg},
		{math.MaxInt, math.MaxInt, nil, api.ErrArg},
	} {
		for range 2 {
			if c.e == api.OK {
				gives(t, c.want)(scan.Page(x, m, c.from, c.n))
			} else {
				fails(t)(scan.Page(x, m, c.from, c.n))
			}
		}
	}
}

// P9.1: the pages one behind the other, of each size, are all the pairs, none twice.
func TestPagesAreAll(t *testing.T) {
	each(t, func(t *testing.T, x hamt.Land, m hamt.Map, want []hamt.Pair) {
		for size := 1; size <= 64; size += 9 {
			var got []hamt.Pair
			for from := 0; from <= m.N; from += size {
				l, e := scan.Page(x, m, from, size)
				if e != api.OK || len(l) != min(size, m.N-from) {
					t.Fatalf("Page(%d, %d) of %d pairs returns %d of them, %d", from, size, m.N, len(l), e)
				}
				got = append(got, l...)
			}
			gives(t, want)(got, api.OK)
		}
	})
}

// allSizes are those that a page of All may have, or, with many pairs, some of them.
func allSizes(pairs int) []int {
	if pairs > 100 {
		return []int{1, 2, 31, 63, 64}
	}
	var l []int
	for size := 1; size <= 64; size++ {
		l = append(l, size)
	}
	return l
}

// P9.2: All returns all pairs in their order, with each size.
func TestAll(t *testing.T) {
	each(t, func(t *testing.T, x hamt.Land, m hamt.Map, want []hamt.Pair) {
		for _, size := range allSizes(m.N) {
			gives(t, want)(scan.All(x, m, size))
		}
		for _, size := range append(noPage(), 0) {
			fails(t)(scan.All(x, m, size))
		}
	})
}

// P9.2: the edges of All, one by one.
func TestAllEdges(t *testing.T) {
	for _, n := range []int{0, 1, 1024} {
		x := land(t, 13000)
		l := ordinary(n)
		m, want := build(t, x, l), sorted(x, l)
		if m.N != n || len(want) != n {
			t.Fatalf("the map has %d pairs, want %d", m.N, n)
		}
		fails(t)(scan.All(x, m, 0))
		gives(t, want)(scan.All(x, m, 1))
		gives(t, want)(scan.All(x, m, 64))
		fails(t)(scan.All(x, m, 65))
		fails(t)(scan.All(x, m, -1))
		fails(t)(scan.All(x, m, math.MinInt))
		fails(t)(scan.All(x, m, math.MaxInt))
	}
}
