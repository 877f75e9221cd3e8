package treap_test

import (
	"testing"

	"easement/api"
	"easement/treap"
	"easement/value"
)

// tight makes one change of a tree of the first n keys in an arena with so much room, and returns its error.
func tight(t *testing.T, c change, w way, l []value.Value, n, left int) api.Errno {
	t.Helper()
	x := land(t, 2*n+10)
	tree, was := build(t, x, l[:n], w.maker), numbered(l[:n])
	for range w.kept {
		x.Keep(tree.Root)
	}
	filled := fill(t, x, left)
	before := look(x)
	got, e := c.do(x, tree, w.editor)
	holds := w.kept
	switch e {
	case api.OK:
		has(t, x, got, c.want, l...)
		drop(x, got)
		if w.editor == 0 {
			holds++
		}
	default:
		fails(t, api.ErrFull)(got, e)
		unchanged(t, x, before)
		holds++
	}
	for range holds {
		has(t, x, tree, was, l...)
		drop(x, tree)
	}
	for _, i := range filled {
		x.Drop(i)
	}
	none(t, x)
	return e
}

// P11.1: every room from 0 to N + 3 ahead of a change: room for N + 3 cells is enough, and
// so is more than what was enough; with an error nothing changes, and the tree remains.
func TestRoom(t *testing.T) {
	each(t, func(t *testing.T, f family) {
		l := f.make(20)
		for _, w := range ways() {
			for _, n := range []int{0, 1, 2, 3, 14} {
				for _, c := range changes(l[:n+2], n) {
					eachRoom(t, c, w, l[:n+2], n)
				}
			}
		}
	})
}

// eachRoom makes one change of a tree of the first n keys in arenas with room for 0 to N + 3 cells.
func eachRoom(t *testing.T, c change, w way, l []value.Value, n int) {
	t.Helper()
	enough := false
	for left := range n + 4 {
		e := tight(t, c, w, l, n, left)
		if e != api.OK && (enough || left == n+3) {
			t.Fatalf("%s %s, of %d keys, with room for %d cells returns %d", c.name, w.name, n, left, e)
		}
		enough = e == api.OK
	}
}

// few are a change of each kind of a tree of the first n keys.
func few(l []value.Value, n int) []change {
	was := numbered(l[:n])
	return []change{
		putting("Put of a new key", was, l[n], value.Text("new")),
		putting("Put of a key that is there", was, l[n-1], value.Text("other")),
		taking(was, l[n/2]),
	}
}

// P11.1: great trees with room for N + 3 cells, for less, and for none.
func TestRoomOfMany(t *testing.T) {
	each(t, func(t *testing.T, f family) {
		const n = 120
		l := f.make(n + 1)
		for _, w := range ways() {
			for _, c := range few(l, n) {
				if e := tight(t, c, w, l, n, n+3); e != api.OK {
					t.Errorf("%s %s, of %d keys, with room for %d cells returns %d", c.name, w.name, n, n+3, e)
				}
				tight(t, c, w, l, n, 9)
				tight(t, c, w, l, n, 0)
			}
		}
	})
}

// P11.1: the greatest trees, changed without an owner, with room for N + 3 cells and for none.
func TestRoomOfMost(t *testing.T) {
	each(t, func(t *testing.T, f family) {
		const n = 1023
		l := f.make(n + 1)
		for _, c := range few(l, n) {
			x := land(t, 3000)
			tree := build(t, x, l[:n], 5)
			filled := fill(t, x, n+3)
			got := then(t, x, tree, 5)(c.do(x, tree, 0))
			has(t, x, got, c.want, l...)
			drop(x, got)
			filled = append(filled, fill(t, x, 0)...)
			was := look(x)
			fails(t, api.ErrFull)(c.do(x, tree, 0))
			unchanged(t, x, was)
			has(t, x, tree, numbered(l[:n]), l...)
			for _, i := range filled {
				x.Drop(i)
			}
			drop(x, tree)
			none(t, x)
		}
	})
}

// P11.1: room for the cells that a change makes is enough for it, and less is not.
func TestEnoughRoom(t *testing.T) {
	each(t, func(t *testing.T, f family) {
		l := f.make(44)
		for _, n := range []int{0, 1, 2, 3, 14, 40} {
			for _, c := range changes(l[:n+4], n) {
				x := land(t, 2*n+3)
				tree := build(t, x, l[:n], 5)
				live := x.Live()
				got, _ := c.do(x, tree, 0)
				need := x.Live() - live
				drop(x, got)
				filled := fill(t, x, max(need-1, 0))
				if need > 0 {
					fails(t, api.ErrFull)(c.do(x, tree, 0))
					x.Drop(filled[0])
				}
				if got, e := c.do(x, tree, 0); e != api.OK {
					t.Errorf("%s of %d keys makes %d cells, and returns %v, %d with room for %d", c.name, n, need, got, e, x.Room())
				}
			}
		}
	})
}

// P11.1: in the smallest arenas trees are made until there is no more room.
func TestSmallArenas(t *testing.T) {
	each(t, func(t *testing.T, f family) {
		l := f.make(60)
		for _, owner := range []uint32{0, 5} {
			for most := 1; most < 60; most++ {
				x := land(t, most)
				tree, want := treap.Tree{}, content{}
				for i, k := range l {
					before := look(x)
					room := x.Room()
					next, e := treap.Put(x, tree, k, value.Number(int64(i)), owner)
					if e != api.OK {
						fails(t, api.ErrFull)(next, e)
						if room >= tree.N+3 || owner != 0 && room > 0 {
							t.Fatalf("there is room for %d cells beside %d keys, and Put returns %d", room, tree.N, e)
						}
						unchanged(t, x, before)
						continue
					}
					tree = then(t, x, tree, owner)(next, e)
					want[k] = value.Number(int64(i))
				}
				has(t, x, tree, want, l...)
				if len(want) == 0 {
					t.Fatalf("there is room for %d cells, and no key can be put", most)
				}
				drop(x, tree)
				none(t, x)
			}
		}
	})
}

// P11.1: a tree that remains after an error is changed once there is room.
func TestRoomAgain(t *testing.T) {
	each(t, func(t *testing.T, f family) {
		l := f.make(50)
		for _, n := range []int{0, 1, 2, 3, 14, 40} {
			for _, owner := range []uint32{0, 5, 6} {
				for _, c := range changes(l[:n+4], n) {
					x := land(t, 2*n+9)
					tree := build(t, x, l[:n], 5)
					filled := fill(t, x, 0)
					got, e := c.do(x, tree, owner)
					if e == api.ErrFull {
						for _, i := range filled[:n+3] {
							x.Drop(i)
						}
						filled = filled[n+3:]
						got, e = c.do(x, tree, owner)
					}
					if e != api.OK {
						t.Fatalf("%s of %d keys returns %d", c.name, n, e)
					}
					has(t, x, got, c.want, l...)
					drop(x, got)
					if owner == 0 {
						has(t, x, tree, numbered(l[:n]), l...)
						drop(x, tree)
					}
					for _, i := range filled {
						x.Drop(i)
					}
					none(t, x)
				}
			}
		}
	})
}

// Rule 1: the error that the chapter names first is returned where there is no room either.
func TestErrorsBeforeRoom(t *testing.T) {
	each(t, func(t *testing.T, f family) {
		l := f.make(1025)
		x := land(t, 1030)
		tree := build(t, x, l[:1024], 5)
		fill(t, x, 0)
		was := look(x)
		for _, owner := range []uint32{0, 5, 6} {
			fails(t, api.ErrLong)(treap.Put(x, tree, l[1024], value.Number(1), owner))
			fails(t, api.ErrNone)(treap.Take(x, tree, l[1024], owner))
			fails(t, api.ErrNone)(treap.Take(x, treap.Tree{}, l[0], owner))
			fails(t, api.ErrFull)(treap.Put(x, treap.Tree{}, l[0], value.Number(1), owner))
		}
		fails(t, api.ErrFull)(treap.Put(x, tree, l[0], value.Number(1), 0))
		fails(t, api.ErrFull)(treap.Put(x, tree, l[1023], value.Number(1), 6))
		unchanged(t, x, was)
	})
}

// With its owner a tree whose cells have no other reference is changed in place, without room.
func TestOwnerNeedsNoRoom(t *testing.T) {
	each(t, func(t *testing.T, f family) {
		for _, n := range []int{1, 2, 14, 40, 300} {
			x := land(t, 700)
			l := f.make(n)
			tree, want := build(t, x, l, 5), numbered(l)
			fill(t, x, 0)
			for _, i := range []int{0, n / 2, n - 1} {
				want[l[i]] = value.Truth(true)
				tree = then(t, x, tree, 5)(treap.Put(x, tree, l[i], want[l[i]], 5))
			}
			has(t, x, tree, want)
			fails(t, api.ErrFull)(treap.Put(x, tree, l[n-1], value.Number(0), 6))
			fails(t, api.ErrFull)(treap.Put(x, tree, l[0], value.Number(0), 0))
			has(t, x, tree, want)
			for _, k := range l {
				tree = then(t, x, tree, 5)(treap.Take(x, tree, k, 5))
				delete(want, k)
			}
			has(t, x, tree, want, l...)
		}
	})
}

// A key whose node another owner made is taken without room, where all nodes that change are the owner's, and have no other reference.
func TestTakeOfAnothersNode(t *testing.T) {
	each(t, func(t *testing.T, f family) {
		for _, n := range []int{1, 2, 3, 14, 40} {
			x := land(t, 50)
			l := f.make(n)
			tree := build(t, x, l, 6)
			top, _ := x.Get(tree.Root)
			tree = then(t, x, tree, 5)(treap.Put(x, tree, top.Vals[0], value.Value{}, 5))
			fill(t, x, 0)
			tree = then(t, x, tree, 6)(treap.Take(x, tree, top.Vals[0], 6))
			has(t, x, tree, numbered(l).without(top.Vals[0]), l...)
		}
	})
}

// Of keys whose hashes come in no order a great tree is changed by making few cells, whatever the order of the keys is.
func TestFewCells(t *testing.T) {
	l := ordinary(1024)
	for _, a := range arrangements() {
		x := land(t, 2000)
		tree := build(t, x, a.of(l), 5)
		most := 0
		for _, k := range l {
			live := x.Live()
			for _, next := range []treap.Tree{
				then(t, x, tree, 5)(treap.Put(x, tree, k, value.Value{}, 0)),
				then(t, x, tree, 5)(treap.Take(x, tree, k, 0)),
			} {
				most = max(most, len(reached(x, tree, next))-live)
				drop(x, next)
			}
		}
		if most > 60 {
			t.Errorf("%s: a change makes %d cells", a.name, most)
		}
	}
}
