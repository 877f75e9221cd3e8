package hamt_test

import (
	"slices"
	"testing"

	"easement/api"
	"easement/hamt"
	"easement/value"
)

// change is a change of a map, with its content after it.
type change struct {
	name string
	do   func(x hamt.Land, m hamt.Map, owner uint32) (hamt.Map, api.Errno)
	want content
}

// putting is the change that puts a pair into a map.
func putting(name string, was content, k, v value.Value) change {
	return change{name, func(x hamt.Land, m hamt.Map, owner uint32) (hamt.Map, api.Errno) {
		return x.Put(m, k, v, owner)
	}, was.with(k, v)}
}

// taking is the change that takes a key from a map.
func taking(was content, k value.Value) change {
	return change{"Take", func(x hamt.Land, m hamt.Map, owner uint32) (hamt.Map, api.Errno) {
		return x.Take(m, k, owner)
	}, was.without(k)}
}

// changes are those of a map of the first n keys that have no error.
func changes(l []value.Value, n int) []change {
	was := numbered(l[:n])
	var out []change
	for _, k := range l[n:min(n+3, api.MaxItems)] {
		out = append(out, putting("Put of a new key", was, k, value.Text("new")))
	}
	last := -1
	for _, i := range []int{0, 1, 2, n / 2, n - 2, n - 1} {
		if i > last && i < n {
			last = i
			out = append(out, putting("Put of a key that is there", was, l[i], value.Text("other")), taking(was, l[i]))
		}
	}
	return out
}

// way is a way to change a map: the owner that it was made with, how many
// references were kept, and the owner of the change.
type way struct {
	name   string
	maker  uint32
	kept   int
	editor uint32
}

// ways are all that the chapter names.
func ways() []way {
	return []way{
		{"without an owner", 0, 0, 0},
		{"without an owner, of an owner's cells", 5, 0, 0},
		{"without an owner, kept", 5, 2, 0},
		{"with the owner", 5, 0, 5},
		{"with the greatest owner", 1<<32 - 1, 0, 1<<32 - 1},
		{"with the owner, kept", 5, 1, 5},
		{"with the owner, kept twice", 5, 2, 5},
		{"with another owner", 5, 0, 6},
		{"with another owner, kept", 5, 1, 6},
		{"with an owner, of cells of none", 0, 0, 5},
		{"with an owner, of cells of none, kept", 0, 1, 5},
	}
}

// P8.1, P8.3: each change in each way: the result is what it should be, what was
// kept and what remains is as it was, and behind the last Drop no cell is live.
func TestEachChangeEachWay(t *testing.T) {
	for _, f := range families() {
		t.Run(f.name, func(t *testing.T) {
			t.Parallel()
			l := f.make(t, 150)
			for _, n := range []int{0, 1, 2, 3, 4, 13, 14, 33, 140} {
				for _, c := range changes(l[:n+6], n) {
					for _, w := range ways() {
						changeOnce(t, c, w, l[:n+6], n)
					}
				}
			}
		})
	}
}

// changeOnce makes one change of a map of the first n keys, and drops all that there is then.
func changeOnce(t *testing.T, c change, w way, l []value.Value, n int) {
	t.Helper()
	x := land(t, 600)
	m, was := build(t, x, l[:n], w.maker), numbered(l[:n])
	for range w.kept {
		x.Keep(m.Root)
	}
	got, e := c.do(x, m, w.editor)
	if e != api.OK {
		t.Fatalf("%s %s, of %d keys, returns %d", c.name, w.name, n, e)
	}
	has(t, x, got, c.want, l...)
	remain := w.kept
	if w.editor == 0 {
		remain++
	}
	for range remain {
		has(t, x, m, was, l...)
		drop(x, m)
	}
	has(t, x, got, c.want, l...)
	if x.Live() > 12*got.N {
		t.Fatalf("a map of %d keys takes %d cells", got.N, x.Live())
	}
	drop(x, got)
	if x.Live() != 0 {
		t.Fatalf("%s %s, of %d keys: %d cells are live behind the last Drop", c.name, w.name, n, x.Live())
	}
}

// P8.3: the other way round, what was made is as it was when what it was made of is changed further, or dropped first.
func TestEachChangeThenChanged(t *testing.T) {
	for _, f := range families() {
		t.Run(f.name, func(t *testing.T) {
			t.Parallel()
			l := f.make(t, 50)
			for _, n := range []int{0, 1, 2, 3, 13, 14, 40} {
				for _, c := range changes(l[:n+4], n) {
					for _, d := range changes(l[:n+4], n) {
						x := land(t, 500)
						m, was := build(t, x, l[:n], 0), numbered(l[:n])
						first, e := c.do(x, m, 0)
						second, g := d.do(x, m, 0)
						if e != api.OK || g != api.OK {
							t.Fatalf("two changes of %d keys return %d and %d", n, e, g)
						}
						has(t, x, first, c.want)
						has(t, x, second, d.want)
						has(t, x, m, was)
						drop(x, m)
						drop(x, second)
						has(t, x, first, c.want)
						drop(x, first)
						none(t, x)
					}
				}
			}
		})
	}
}

// P8.3: what an owner changes again and again is never seen in the map that Keep held.
func TestOwnerLeavesWhatWasKept(t *testing.T) {
	for _, f := range families() {
		t.Run(f.name, func(t *testing.T) {
			t.Parallel()
			l := f.make(t, 60)
			for _, n := range []int{1, 2, 3, 14, 30} {
				for _, maker := range []uint32{0, 5, 6} {
					x := land(t, 1000)
					m, was := build(t, x, l[:n], maker), numbered(l[:n])
					x.Keep(m.Root)
					now := numbered(l[:n])
					w := m
					for i, k := range l[:2*n] {
						now[k] = value.Text("x")
						w = then(t, x, w, 5)(x.Put(w, k, now[k], 5))
						has(t, x, m, was, l...)
						has(t, x, w, now, l...)
						if i%3 == 1 {
							delete(now, l[i-1])
							w = then(t, x, w, 5)(x.Take(w, l[i-1], 5))
							has(t, x, m, was, l...)
							has(t, x, w, now, l...)
						}
					}
					drop(x, w)
					has(t, x, m, was, l...)
					drop(x, m)
					none(t, x)
				}
			}
		})
	}
}

// P8.3: all versions of a map, each made of the one before, are what they were, whichever are dropped first.
func TestAllVersionsLast(t *testing.T) {
	for _, f := range families() {
		t.Run(f.name, func(t *testing.T) {
			t.Parallel()
			x := land(t, 10000)
			l := f.make(t, 200)
			versions, wants := []hamt.Map{{}}, []content{{}}
			add := func(want content) func(hamt.Map, api.Errno) {
				return func(m hamt.Map, e api.Errno) {
					t.Helper()
					if e != api.OK {
						t.Fatalf("version %d: %d", len(versions), e)
					}
					versions, wants = append(versions, m), append(wants, want)
				}
			}
			next := random(9)
			for i, k := range l {
				v := value.Number(int64(i))
				add(wants[len(wants)-1].with(k, v))(x.Put(versions[len(versions)-1], k, v, 0))
				old := l[next(i+1)]
				add(wants[len(wants)-1].with(old, value.Value{}))(x.Put(versions[len(versions)-1], old, value.Value{}, 0))
			}
			for _, k := range l {
				add(wants[len(wants)-1].without(k))(x.Take(versions[len(versions)-1], k, 0))
			}
			for i := range versions {
				if i%2 == 0 {
					drop(x, versions[i])
				}
			}
			for i := range versions {
				if i%2 == 1 {
					has(t, x, versions[i], wants[i], l...)
					drop(x, versions[i])
				}
			}
			none(t, x)
		})
	}
}

// The words of the chapter: with its owner a map whose cells have no other reference is changed in place, without room.
func TestOwnerNeedsNoRoom(t *testing.T) {
	for _, f := range families() {
		for _, n := range []int{1, 2, 14, 40, 300} {
			x := land(t, 700)
			l := f.make(t, n)
			m, want := build(t, x, l, 5), numbered(l)
			fill(t, x, 0)
			for _, i := range []int{0, n / 2, n - 1} {
				want[l[i]] = value.Truth(true)
				m = then(t, x, m, 5)(x.Put(m, l[i], want[l[i]], 5))
			}
			has(t, x, m, want)
			fails(t, api.ErrFull)(x.Put(m, l[n-1], value.Number(0), 6))
			fails(t, api.ErrFull)(x.Put(m, l[0], value.Number(0), 0))
			has(t, x, m, want)
			for _, k := range l {
				m = then(t, x, m, 5)(x.Take(m, k, 5))
				delete(want, k)
			}
			has(t, x, m, want, l...)
		}
	}
}

// The words of the chapter: the cells that another owner made for a change are changed in place by that owner from then on, and by no other one.
func TestNextOwnerNeedsNoRoom(t *testing.T) {
	for _, f := range families() {
		for _, n := range []int{1, 2, 14, 40} {
			for _, w := range [][2]uint32{{5, 6}, {0, 6}, {5, 0}} {
				x := land(t, 700)
				l := f.make(t, n)
				m, want := build(t, x, l, w[0]), numbered(l)
				m = then(t, x, m, w[1])(x.Put(m, l[0], value.Text("x"), w[1]))
				filled := fill(t, x, 0)
				fails(t, api.ErrFull)(x.Put(m, l[0], value.Text("y"), 5))
				if w[1] != 0 {
					m = then(t, x, m, 6)(x.Put(m, l[0], value.Text("y"), 6))
					has(t, x, m, want.with(l[0], value.Text("y")))
				}
				for _, i := range filled {
					x.Drop(i)
				}
				drop(x, m)
				none(t, x)
			}
		}
	}
}

// The words of the chapter: with an owner the cells that the map no longer needs are freed at once.
func TestOwnerLeavesNoCells(t *testing.T) {
	for _, f := range families() {
		t.Run(f.name, func(t *testing.T) {
			t.Parallel()
			l := f.make(t, 300)
			for _, owner := range []uint32{5, 6} {
				x := land(t, 4000)
				m := build(t, x, l, 5)
				for i, k := range l {
					m = then(t, x, m, owner)(x.Put(m, k, value.Text("x"), owner))
					if cells := len(reached(x, m.Root)); x.Live() != cells {
						t.Fatalf("the map has %d cells, and %d are live", cells, x.Live())
					}
					if i%2 == 0 {
						m = then(t, x, m, owner)(x.Take(m, k, owner))
					}
				}
				drop(x, m)
				none(t, x)
			}
		})
	}
}

// reached are the numbers of the cells of a map.
func reached(x hamt.Land, root int) []int {
	if root == 0 {
		return nil
	}
	l := []int{root}
	for i := 0; i < len(l); i++ {
		c, _ := x.Get(l[i])
		for _, k := range c.Kids {
			if k != 0 && !slices.Contains(l, k) {
				l = append(l, k)
			}
		}
	}
	return l
}
