package hamt_test

import (
	"cmp"
	"maps"
	"slices"
	"testing"

	"easement/api"
	"easement/arena"
	"easement/hamt"
	"easement/hash"
	"easement/value"
)

// land is a land with room for so many cells.
func land(t *testing.T, most int) hamt.Land {
	t.Helper()
	a, e := arena.New(most)
	if e != api.OK {
		t.Fatalf("New(%d) returns %d", most, e)
	}
	return hamt.Land{Arena: a, Hasher: hash.New(seed)}
}

// content is what a map must have.
type content map[value.Value]value.Value

// numbered is the content in which each key has its place as its value.
func numbered(l []value.Value) content {
	c := content{}
	for i, k := range l {
		c[k] = value.Number(int64(i))
	}
	return c
}

// with is the content with a pair.
func (c content) with(k, v value.Value) content {
	c = maps.Clone(c)
	c[k] = v
	return c
}

// without is the content without a key.
func (c content) without(k value.Value) content {
	c = maps.Clone(c)
	delete(c, k)
	return c
}

// order compares two keys as the chapter orders them.
func order(x hamt.Land, a, b value.Value) int {
	g, h := x.Of(a), x.Of(b)
	for range 13 {
		if g%32 != h%32 {
			return cmp.Compare(g%32, h%32)
		}
		g, h = g/32, h/32
	}
	return value.Compare(a, b)
}

// pairs are those of a content, in the order of keys.
func pairs(x hamt.Land, c content) []hamt.Pair {
	var l []hamt.Pair
	for k, v := range c {
		l = append(l, hamt.Pair{Key: k, Value: v})
	}
	slices.SortFunc(l, func(p, q hamt.Pair) int { return order(x, p.Key, q.Key) })
	return l
}

// has checks that a map has this content, and none of some other keys.
func has(t *testing.T, x hamt.Land, m hamt.Map, want content, absent ...value.Value) {
	t.Helper()
	if m.N != len(want) || (m.N == 0) != (m == hamt.Map{}) {
		t.Fatalf("the map is %v, want one of %d keys", m, len(want))
	}
	for k, v := range want {
		if got, ok := x.Look(m, k); got != v || !ok {
			t.Fatalf("Look of %v among %d keys returns %v, %t; want %v", k, m.N, got, ok, v)
		}
	}
	for _, k := range absent {
		if _, ok := want[k]; ok {
			continue
		}
		if got, ok := x.Look(m, k); got != (value.Value{}) || ok {
			t.Fatalf("Look of %v, which is not among %d keys, returns %v, %t", k, m.N, got, ok)
		}
	}
	if got := slices.Collect(x.Pairs(m)); !slices.Equal(got, pairs(x, want)) {
		t.Fatalf("the pairs of %d keys are %v, want %v", m.N, got, pairs(x, want))
	}
}

// drop removes a reference to a map.
func drop(x hamt.Land, m hamt.Map) { x.Drop(m.Root) }

// none checks that no cell is live.
func none(t *testing.T, x hamt.Land) {
	t.Helper()
	if x.Live() != 0 {
		t.Fatalf("%d cells are live behind the last Drop", x.Live())
	}
}

// then is the result of a change that must not fail; the map of before is dropped if it remains.
func then(t *testing.T, x hamt.Land, m hamt.Map, owner uint32) func(hamt.Map, api.Errno) hamt.Map {
	return func(next hamt.Map, e api.Errno) hamt.Map {
		t.Helper()
		if e != api.OK {
			t.Fatalf("a change of a map of %d keys returns %v, %d", m.N, next, e)
		}
		if owner == 0 {
			drop(x, m)
		}
		return next
	}
}

// fails checks that a change returned an error, and nothing beside it.
func fails(t *testing.T, want api.Errno) func(hamt.Map, api.Errno) {
	return func(m hamt.Map, e api.Errno) {
		t.Helper()
		if m != (hamt.Map{}) || e != want {
			t.Errorf("a change returns %v, %d; want %d", m, e, want)
		}
	}
}

// build is a map of these keys, each with its place as its value, made with an owner; with 0 the maps between are dropped.
func build(t *testing.T, x hamt.Land, l []value.Value, owner uint32) hamt.Map {
	t.Helper()
	m := hamt.Map{}
	for i, k := range l {
		m = then(t, x, m, owner)(x.Put(m, k, value.Number(int64(i)), owner))
	}
	return m
}

// The example of the chapter.
func TestExample(t *testing.T) {
	x := land(t, 20)
	m, e := x.Put(hamt.Map{}, value.Number(1), value.Number(2), 0)
	if e != api.OK || m.N != 1 {
		t.Fatalf("Put returns %v, %d", m, e)
	}
	if v, ok := x.Look(m, value.Number(1)); v != value.Number(2) || !ok {
		t.Errorf("Look of 1 returns %v, %t", v, ok)
	}
	drop(x, m)
	none(t, x)
}

// The section Ways: the methods of the parts of a land are those of the land.
func TestPromoted(t *testing.T) {
	x := land(t, 3)
	var parts interface {
		Live() int
		Room() int
		Refs(i int) int
		Of(v value.Value) uint64
	} = x
	m := then(t, x, hamt.Map{}, 0)(x.Put(hamt.Map{}, value.Number(1), value.Value{}, 0))
	if parts.Live()+parts.Room() != 3 || parts.Live() == 0 || parts.Refs(m.Root) != 1 {
		t.Errorf("%d cells are live, there is room for %d, and the root has %d references", parts.Live(), parts.Room(), parts.Refs(m.Root))
	}
	if parts.Of(value.Number(1)) != hash.New(seed).Of(value.Number(1)) {
		t.Error("the hash is that of another hasher")
	}
}

// P8.1: Look of keys that are there and of those that aren't, Put of new ones, in
// each order in which some are put, with each number of keys.
func TestPutAndLook(t *testing.T) {
	for _, f := range families() {
		t.Run(f.name, func(t *testing.T) {
			t.Parallel()
			l := f.make(t, 90)
			for _, owner := range []uint32{0, 5} {
				for _, arrange := range arrangements() {
					x := land(t, 2000)
					in := slices.Clone(l[:80])
					arrange(in)
					m, want := hamt.Map{}, content{}
					for i, k := range in {
						has(t, x, m, want, l...)
						m = then(t, x, m, owner)(x.Put(m, k, value.Number(int64(i)), owner))
						want[k] = value.Number(int64(i))
					}
					has(t, x, m, want, l...)
					drop(x, m)
					none(t, x)
				}
			}
		})
	}
}

// shuffle puts keys into another order, always the same one.
func shuffle(l []value.Value) {
	next := random(uint64(len(l)))
	for i := range l {
		j := i + next(len(l)-i)
		l[i], l[j] = l[j], l[i]
	}
}

// arrangements leave keys in their order, or put them into another one.
func arrangements() []func([]value.Value) {
	return []func([]value.Value){func([]value.Value) {}, slices.Reverse[[]value.Value], shuffle}
}

// P8.1: Put of a key that is there gives it another value, and leaves the others theirs.
func TestPutAgain(t *testing.T) {
	for _, f := range families() {
		t.Run(f.name, func(t *testing.T) {
			t.Parallel()
			l := f.make(t, 45)
			for _, owner := range []uint32{0, 5, 6} {
				x := land(t, 1000)
				m, want := build(t, x, l[:40], 5), numbered(l[:40])
				for i, k := range l[:40] {
					for _, v := range []value.Value{{}, value.Text("x"), k, value.Number(int64(-i)), value.Number(int64(-i))} {
						m = then(t, x, m, owner)(x.Put(m, k, v, owner))
						want[k] = v
					}
					has(t, x, m, want, l...)
				}
				drop(x, m)
				none(t, x)
			}
		})
	}
}

// P8.1: Take of each key, in each order in which some are taken, down to the empty map; then it is no more there.
func TestTake(t *testing.T) {
	for _, f := range families() {
		t.Run(f.name, func(t *testing.T) {
			t.Parallel()
			l := f.make(t, 80)
			for _, owner := range []uint32{0, 5, 6} {
				for _, arrange := range arrangements() {
					x := land(t, 2000)
					m, want := build(t, x, l, 5), numbered(l)
					out := slices.Clone(l)
					arrange(out)
					for _, k := range out {
						m = then(t, x, m, owner)(x.Take(m, k, owner))
						delete(want, k)
						has(t, x, m, want, l...)
						fails(t, api.ErrNone)(x.Take(m, k, owner))
					}
					if m != (hamt.Map{}) {
						t.Errorf("the map without keys is %v", m)
					}
					none(t, x)
				}
			}
		})
	}
}

// P8.1: Take of a key that isn't there is ErrNone, and changes nothing.
func TestTakeNone(t *testing.T) {
	for _, f := range families() {
		for _, n := range []int{0, 1, 2, 3, 12, 13, 14, 40} {
			for _, owner := range []uint32{0, 5, 6} {
				x := land(t, 200)
				l := f.make(t, n+6)
				m := build(t, x, l[:n], 5)
				was := look(x, 200)
				for _, k := range append(l[n:], value.Text("absent")) {
					fails(t, api.ErrNone)(x.Take(m, k, owner))
				}
				unchanged(t, x, was)
				has(t, x, m, numbered(l[:n]), l...)
				drop(x, m)
				none(t, x)
			}
		}
	}
}

// P8.1: with 1023 keys there is room for one more; with 1024 a new one is ErrLong, and one that is there isn't.
func TestLong(t *testing.T) {
	for _, f := range families() {
		t.Run(f.name, func(t *testing.T) {
			t.Parallel()
			l := f.make(t, 1026)
			for _, owner := range []uint32{0, 5} {
				x := land(t, 20000)
				m := build(t, x, l[:1023], owner)
				has(t, x, m, numbered(l[:1023]), l[1023:]...)
				for _, k := range []value.Value{l[1023], l[1024]} {
					m = then(t, x, m, owner)(x.Put(m, k, value.Number(1023), owner))
					has(t, x, m, numbered(l[:1023]).with(k, value.Number(1023)), l[1023:]...)
					for _, other := range l[1024:] {
						if other != k {
							fails(t, api.ErrLong)(x.Put(m, other, value.Number(0), owner))
						}
					}
					m = then(t, x, m, owner)(x.Put(m, l[500], value.Text("x"), owner))
					m = then(t, x, m, owner)(x.Put(m, k, value.Text("y"), owner))
					has(t, x, m, numbered(l[:1023]).with(k, value.Text("y")).with(l[500], value.Text("x")), l[1023:]...)
					m = then(t, x, m, owner)(x.Put(m, l[500], value.Number(500), owner))
					m = then(t, x, m, owner)(x.Take(m, k, owner))
				}
				has(t, x, m, numbered(l[:1023]), l[1023:]...)
				drop(x, m)
				none(t, x)
			}
		})
	}
}

// P8.1: a key differs from one of another kind, and from one with other bytes, however alike they look; any valid value is kept as it is.
func TestAlike(t *testing.T) {
	x := land(t, 500)
	long := string(make([]byte, api.MaxBytes))
	l := []value.Value{
		{}, value.Truth(false), value.Truth(true), value.Number(0), value.Number(1), value.Number(-1), value.Text(""),
		value.Text("\x00"), value.Text("\x01"), value.Text("1"), value.Text(long), value.Text(long[1:]), value.Text(long[1:] + "\x01"),
	}
	m, want := hamt.Map{}, content{}
	for i, k := range l {
		v := l[len(l)-1-i]
		m = then(t, x, m, 0)(x.Put(m, k, v, 0))
		want[k] = v
		has(t, x, m, want, l...)
	}
	for _, k := range l {
		m = then(t, x, m, 0)(x.Take(m, k, 0))
		delete(want, k)
		has(t, x, m, want, l...)
	}
	none(t, x)
}
