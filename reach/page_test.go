package reach_test

import (
	"math"
	"slices"
	"testing"

	"easement/api"
	"easement/hamt"
	"easement/reach"
	"easement/treap"
	"easement/value"
)

// page is what Page must return of a list.
func (l list) page(from, to reach.Bound, n int) list {
	var out list
	for _, p := range l {
		if (from.Open || order(p.Key, from.Key) >= 0) && (to.Open || order(p.Key, to.Key) < 0) {
			out = append(out, p)
		}
	}
	return out[:min(n, len(out))]
}

// noPage are numbers that no page has as many pairs as.
func noPage() []int {
	return []int{-1, -2, -64, math.MinInt32, math.MinInt + 1, math.MinInt, 65, 66, 1024, 1 << 32, 1<<32 + 1, math.MaxInt - 1, math.MaxInt}
}

// gives checks that a call returned these pairs, and no error.
func gives(t *testing.T, want list) func([]hamt.Pair, api.Errno) {
	return func(got []hamt.Pair, e api.Errno) {
		t.Helper()
		if !slices.Equal(got, want) || e != api.OK {
			t.Fatalf("the call returns %d, %.300v; want %.300v", e, got, want)
		}
	}
}

// fails checks that a call returned ErrArg, and nothing beside it.
func fails(t *testing.T) func([]hamt.Pair, api.Errno) {
	return func(got []hamt.Pair, e api.Errno) {
		t.Helper()
		if len(got) != 0 || e != api.ErrArg {
			t.Fatalf("the call returns %d, %.300v; want %d", e, got, api.ErrArg)
		}
	}
}

// at is the bound at a key.
func at(k value.Value) reach.Bound { return reach.Bound{Key: k} }

// open are open bounds. What their Key is doesn't matter.
func open() []reach.Bound {
	return []reach.Bound{{Open: true}, {Open: true, Key: value.Number(4)}, {Open: true, Key: value.Value{Kind: 255}}}
}

// bounds are those at some keys, and open ones.
func bounds(l []value.Value) []reach.Bound {
	out := open()
	for _, k := range l {
		out = append(out, at(k))
	}
	return out
}

// P12.2: the edges of Page, one by one, of a tree with the keys 0, 10, 20 and so on up to 690.
func TestPageEdges(t *testing.T) {
	x := land(t, 70)
	var l []value.Value
	for i := range 70 {
		l = append(l, value.Number(int64(10*i)))
	}
	tree, all := build(t, x, l), sorted(l)
	was := look(x)
	key := func(n int64) reach.Bound { return at(value.Number(n)) }
	beyond := reach.Bound{Open: true}
	for _, c := range []struct {
		name     string
		from, to reach.Bound
		n        int
		want     list
	}{
		{"both a key of the tree", key(20), key(50), 64, all[2:5]},
		{"neither a key of the tree", key(15), key(55), 64, all[2:6]},
		{"from a key, to none", key(20), key(41), 64, all[2:5]},
		{"from none, to a key", key(11), key(50), 64, all[2:5]},
		{"more than a page", key(0), key(691), 64, all[:64]},
		{"just more than a page", key(20), key(670), 64, all[2:66]},
		{"just a page", key(20), key(660), 64, all[2:66]},
		{"less than a page", key(20), key(650), 64, all[2:65]},
		{"just so many", key(20), key(50), 3, all[2:5]},
		{"one more", key(20), key(50), 2, all[2:4]},
		{"one less", key(20), key(50), 4, all[2:5]},
		{"63 at most", beyond, beyond, 63, all[:63]},
		{"64 at most", beyond, beyond, 64, all[:64]},
		{"one at most", beyond, beyond, 1, all[:1]},
		{"one at most, from a key", key(20), key(50), 1, all[2:3]},
		{"none at most", key(20), key(50), 0, nil},
		{"none at most, both open", beyond, beyond, 0, nil},
		{"from open, to a key", beyond, key(50), 64, all[:5]},
		{"from open, to none", beyond, key(51), 64, all[:6]},
		{"from open, to the least key", beyond, key(0), 64, nil},
		{"from open, to just above it", beyond, key(1), 64, all[:1]},
		{"from a key, to open", key(600), beyond, 64, all[60:]},
		{"from none, to open", key(591), beyond, 64, all[60:]},
		{"from the greatest key, to open", key(690), beyond, 64, all[69:]},
		{"from above it, to open", key(691), beyond, 64, nil},
		{"to the greatest key", key(670), key(690), 64, all[67:69]},
		{"to just above it", key(670), key(691), 64, all[67:]},
		{"between two keys", key(21), key(29), 64, nil},
		{"from just above a key, to the next one", key(21), key(30), 64, nil},
		{"from a key, to just above it", key(20), key(21), 64, all[2:3]},
		{"the same key twice", key(20), key(20), 64, nil},
		{"the same twice, no key", key(21), key(21), 64, nil},
		{"to below from", key(50), key(20), 64, nil},
		{"to below from, neither a key", key(51), key(19), 64, nil},
		{"both below all", key(-9), key(-1), 64, nil},
		{"both above all", key(701), key(900), 64, nil},
		{"from below all, to above all", key(math.MinInt64), key(math.MaxInt64), 2, all[:2]},
		{"from Nil, to bytes", at(value.Value{}), at(value.Text("")), 2, all[:2]},
		{"from bytes, to open", at(value.Text("")), beyond, 64, nil},
		{"from open, to a truth", beyond, at(value.Truth(true)), 64, nil},
		{"from a number that is not valid", at(value.Value{Kind: value.Int, N: 20, S: "x"}), key(50), 64, all[3:5]},
		{"to a number that is not valid", key(20), at(value.Value{Kind: value.Int, N: 50, S: "x"}), 64, all[2:6]},
	} {
		for range 2 {
			got, e := reach.Page(x, tree, c.from, c.to, c.n)
			if !slices.Equal(got, c.want) || e != api.OK {
				t.Errorf("%s: Page returns %d, %v; want %v", c.name, e, got, c.want)
			}
		}
		if got := all.page(c.from, c.to, c.n); !slices.Equal(got, c.want) {
			t.Errorf("%s: the page of the plain list is %v, want %v", c.name, got, c.want)
		}
		for _, n := range noPage() {
			fails(t)(reach.Page(x, tree, c.from, c.to, n))
		}
	}
	unchanged(t, x, was)
}

// P12.2: the empty tree has no page of any pair, and the errors are the same.
func TestPageNone(t *testing.T) {
	x := land(t, 5)
	all := bounds(ordinary(8))
	for _, from := range all {
		for _, to := range all {
			for _, n := range []int{0, 1, 63, 64} {
				gives(t, nil)(reach.Page(x, treap.Tree{}, from, to, n))
			}
			for _, n := range noPage() {
				fails(t)(reach.Page(x, treap.Tree{}, from, to, n))
			}
		}
	}
}

// P12.2: trees of every small size, between all of their keys and what is beside them.
func TestPageOfFew(t *testing.T) {
	each(t, func(t *testing.T, f family) {
		for n := range 9 {
			x := land(t, 10)
			l := shuffled(f.make(n))
			tree, want := build(t, x, l), sorted(l)
			was := look(x)
			all := bounds(sought(l))
			for _, from := range all {
				for _, to := range all {
					for _, n := range []int{0, 1, 2, 64} {
						gives(t, want.page(from, to, n))(reach.Page(x, tree, from, to, n))
					}
				}
			}
			unchanged(t, x, was)
		}
	})
}

// P12.2: trees of less than a page, of just one, and of more, with each edge of n.
func TestPageOfSome(t *testing.T) {
	each(t, func(t *testing.T, f family) {
		for _, n := range []int{9, 10, 11, 12, 16, 17, 31, 32, 33, 48, 62, 63, 64, 65, 66, 71} {
			x := land(t, 80)
			l := shuffled(f.make(n))
			tree, want := build(t, x, l), sorted(l)
			all := bounds(append(few(ordered(l)), value.Value{}, value.Number(1), value.Text("k")))
			for _, from := range all {
				for _, to := range all {
					for _, n := range []int{0, 1, 2, 3, 31, 63, 64} {
						gives(t, want.page(from, to, n))(reach.Page(x, tree, from, to, n))
					}
				}
			}
		}
	})
}

// P12.2: great trees, in arenas without any room.
func TestPageOfMany(t *testing.T) {
	each(t, func(t *testing.T, f family) {
		for _, n := range []int{200, 1023, 1024} {
			x := land(t, n)
			l := shuffled(f.make(n))
			tree, want := build(t, x, l), sorted(l)
			was := look(x)
			some := open()
			for _, k := range few(ordered(l)) {
				for _, b := range beside(k) {
					some = append(some, at(b))
				}
			}
			next := random(uint64(n))
			for range 1000 {
				from, to := some[next(len(some))], some[next(len(some))]
				size := []int{0, 1, 2, 63, 64, next(65)}[next(6)]
				gives(t, want.page(from, to, size))(reach.Page(x, tree, from, to, size))
			}
			for _, size := range noPage() {
				fails(t)(reach.Page(x, tree, some[0], some[0], size))
			}
			unchanged(t, x, was)
		}
	})
}

// P12.2: of a great tree, the pages from each key on, and those up to each key.
func TestPageEachOfMany(t *testing.T) {
	x := land(t, 1024)
	l := ordinary(1024)
	tree, want := build(t, x, shuffled(l)), sorted(shuffled(l))
	for i, p := range want {
		gives(t, want[i:min(i+64, 1024)])(reach.Page(x, tree, at(p.Key), open()[0], 64))
		gives(t, want[:min(i, 64)])(reach.Page(x, tree, open()[0], at(p.Key), 64))
		gives(t, want[max(i-7, 0):i])(reach.Page(x, tree, at(want[max(i-7, 0)].Key), at(p.Key), 64))
	}
}

// P12.2: the pages one behind the other, each from just behind the last key of the one before, are all the pairs.
func TestPagesAreAll(t *testing.T) {
	each(t, func(t *testing.T, f family) {
		for _, n := range []int{1, 64, 65, 128, 300} {
			x := land(t, n)
			l := f.make(n)
			tree, want := build(t, x, l), sorted(l)
			for _, size := range []int{1, 2, 63, 64} {
				var got list
				from := open()[0]
				for {
					l, e := reach.Page(x, tree, from, open()[0], size)
					if e != api.OK || len(l) != min(size, n-len(got)) {
						t.Fatalf("behind %d of %d pairs Page returns %d, and %d of them", len(got), n, e, len(l))
					}
					if len(l) == 0 {
						break
					}
					got = append(got, l...)
					last := l[len(l)-1].Key
					last.S += "\x00" // nothing is between these, of any kind
					from = at(last)
				}
				if !slices.Equal(got, want) {
					t.Errorf("the pages of %d have %d other pairs", size, len(got))
				}
			}
		}
	})
}
