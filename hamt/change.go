package hamt

import (
	"slices"
	"sort"

	"easement/api"
	"easement/arena"
	"easement/digit"
	"easement/renew"
	"easement/value"
)

// put is the root of the map with a pair. Where the hashes of the key and of the
// leaf part, a branch gets one Kid more, or there is no branch yet, and one comes
// ahead of the next cell of the way.
func (w way) put(k, v value.Value) (int, api.Errno) {
	if len(w.cells) == 0 {
		return w.replace(0, 1, func(int) int { return w.newLeaf(k, v) })
	}
	near := w.Of(w.leaf[0])
	level := parting(near, w.hash)
	n := sort.SearchInts(w.levels, level)
	switch {
	case level == digit.Deep:
		return w.edit(n, 0, func(c arena.Cell) arena.Cell { return w.withPair(c, k, v) })
	case level == w.levels[n]:
		return w.edit(n, 1, func(c arena.Cell) arena.Cell { return withKid(c, w.hash, w.newLeaf(k, v)) })
	}
	return w.replace(n, 2, func(i int) int {
		fork := withKid(arena.Cell{Owner: w.owner, B: uint32(level)}, near, i)
		made, _ := w.Make(withKid(fork, w.hash, w.newLeaf(k, v)))
		return made
	})
}

// take is the root of the map without the key of the way. Where a branch would
// keep a single Kid, that takes its place.
func (w way) take() (int, api.Errno) {
	last := len(w.cells) - 1
	if len(w.leaf) > 2 {
		return w.edit(last, 0, func(c arena.Cell) arena.Cell {
			c.Vals = slices.Delete(c.Vals, w.at, w.at+2)
			return c
		})
	}
	if last == 0 {
		return w.replace(0, 0, func(leaf int) int {
			w.Drop(leaf)
			return 0
		})
	}
	branch, _ := w.Get(w.cells[last-1])
	if len(branch.Kids) > 2 {
		return w.edit(last-1, 0, w.withoutKid)
	}
	other := branch.Kids[1-side(branch, w.hash)]
	return w.replace(last-1, 0, func(i int) int {
		w.Keep(other)
		w.Drop(i)
		return other
	})
}

// newLeaf is a leaf with one pair.
func (w way) newLeaf(k, v value.Value) int {
	i, _ := w.Make(arena.Cell{Owner: w.owner, B: digit.Deep, Vals: []value.Value{k, v}})
	return i
}

// withPair is the leaf of the way with a pair.
func (w way) withPair(c arena.Cell, k, v value.Value) arena.Cell {
	if w.has {
		c.Vals[w.at+1] = v
		return c
	}
	c.Vals = slices.Insert(c.Vals, w.at, k, v)
	return c
}

// withKid is a branch with one Kid more, for a hash whose digit it doesn't have.
func withKid(c arena.Cell, hash uint64, kid int) arena.Cell {
	s := digit.Set(c.A)
	d := digit.At(hash, int(c.B))
	c.Kids = slices.Insert(c.Kids, s.Place(d), kid)
	c.A = uint32(s.With(d))
	return c
}

// withoutKid is a branch of the way without the Kid to which the way leads.
func (w way) withoutKid(c arena.Cell) arena.Cell {
	at := side(c, w.hash)
	w.Drop(c.Kids[at])
	c.Kids = slices.Delete(c.Kids, at, at+1)
	c.A = uint32(digit.Set(c.A).Without(digit.At(w.hash, int(c.B))))
	return c
}

// edit changes the cell of the way that has so many ahead of it, for which as
// many cells as made are made beside, and returns the root.
func (w way) edit(n, made int, change func(arena.Cell) arena.Cell) (int, api.Errno) {
	need := renew.Fresh(w.Arena, w.owner, w.cells[:n+1]...) + made
	return w.do(n, need, func(i int) int { return renew.Cell(w.Arena, i, w.owner, change) })
}

// replace puts another cell in the place of that of the way that has so many
// ahead of it, for which as many cells as made are made, and returns the root.
func (w way) replace(n, made int, swap func(int) int) (int, api.Errno) {
	need := renew.Fresh(w.Arena, w.owner, w.cells[:n]...) + made
	return w.do(n, need, swap)
}

// do makes a change for which so many cells are needed. The function swap is
// handed the reference to the cell that has n ahead of it, and returns that to
// what takes its place.
func (w way) do(n, need int, swap func(int) int) (int, api.Errno) {
	if !renew.Begin(w.Arena, w.owner, need, w.root) {
		return 0, api.ErrFull
	}
	return w.pass(w.root, n, swap), api.OK
}

// pass changes so many branches of the way, from one on, for the change of what
// is behind them.
func (w way) pass(i, n int, swap func(int) int) int {
	if n == 0 {
		return swap(i)
	}
	return renew.Cell(w.Arena, i, w.owner, func(c arena.Cell) arena.Cell {
		at := side(c, w.hash)
		c.Kids[at] = w.pass(c.Kids[at], n-1, swap)
		return c
	})
}
