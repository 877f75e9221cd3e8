package treap

import (
	"sort"

	"easement/api"
	"easement/arena"
	"easement/hamt"
	"easement/renew"
	"easement/value"
)

// way is the way from the root of a tree to a key, or to where it would be, for a
// change with an owner.
type way struct {
	hamt.Land
	owner uint32
	key   value.Value
	root  int
	upper []node // from the root on, without that of the key
	node  node   // that of the key, if there is one
	has   bool
}

// wayTo is the way to a key.
func wayTo(x hamt.Land, t Tree, k value.Value, owner uint32) way {
	w := way{Land: x, owner: owner, key: k, root: t.Root}
	n, ok := w.read(place{cell: t.Root})
	for ok && n.Key != k {
		w.upper = append(w.upper, n)
		n, ok = w.read(n.below(n.side(k)))
	}
	w.node, w.has = n, ok
	return w
}

// read is the node at a place, with what a change of it makes; false: there is none.
func (w way) read(p place) (node, bool) {
	n, ok := read(w.Land, p)
	n.fresh = max(p.shared, renew.Fresh(w.Arena, w.owner, p.cell))
	return n, ok
}

// set is the root of the tree with another value for the key, which it has.
func (w way) set(v value.Value) (int, api.Errno) {
	return w.do(fresh(w.upper)+w.node.fresh, func() int {
		return w.relink(w.upper, func() int {
			return w.edit(w.node, func(n *node) { n.Value = v })
		})
	})
}

// add is the root of the tree with the key, which it doesn't have. The new node
// comes below those that rank above it, and what was there is parted at the key.
func (w way) add(v value.Value) (int, api.Errno) {
	n := node{Pair: hamt.Pair{Key: w.key, Value: v}, rank: w.Of(w.key)}
	top := sort.Search(len(w.upper), func(i int) bool { return n.above(w.upper[i]) })
	return w.do(fresh(w.upper)+1, func() int {
		return w.relink(w.upper[:top], func() int {
			n.kids = w.part(w.upper[top:])
			made, _ := w.Make(n.pack(w.owner))
			return made
		})
	})
}

// take is the root of the tree without the key, which it has. What its node held
// is joined in its place; if nobody else holds that node, those below it are no
// more shared than the node itself was, whoever owns it.
func (w way) take() (int, api.Errno) {
	n := w.node
	n.fresh = max(n.shared, min(1, w.Refs(n.cell)-1))
	seam, rest := w.seam(n.below(lesser), n.below(greater))
	return w.do(fresh(w.upper)+fresh(seam), func() int {
		return w.relink(w.upper, func() int {
			for _, kid := range n.kids {
				w.Keep(kid)
			}
			w.Drop(n.cell)
			return w.relink(seam, func() int { return rest })
		})
	})
}

// seam is the nodes along which what is at two places beside the key is joined,
// those that rank above the others first, and what is left of the one where the
// other one ends.
func (w way) seam(less, more place) ([]node, int) {
	var l []node
	for {
		n, ok := w.read(less)
		if !ok {
			return l, more.cell
		}
		m, ok := w.read(more)
		if !ok {
			return l, less.cell
		}
		if n.above(m) {
			l = append(l, n)
			less = n.below(greater)
		} else {
			l = append(l, m)
			more = m.below(lesser)
		}
	}
}

// fresh is how many cells a change of nodes makes.
func fresh(l []node) int {
	sum := 0
	for _, n := range l {
		sum += n.fresh
	}
	return sum
}

// do makes a change that makes so many cells, if there is room for them.
func (w way) do(need int, change func() int) (int, api.Errno) {
	if !renew.Begin(w.Arena, w.owner, need, w.root) {
		return 0, api.ErrFull
	}
	return change(), api.OK
}

// edit changes a node. The caller's reference to its cell becomes that to the cell
// that is returned.
func (w way) edit(n node, change func(*node)) int {
	return renew.Cell(w.Arena, n.cell, w.owner, func(arena.Cell) arena.Cell {
		change(&n)
		return n.pack(w.owner)
	})
}

// relink makes each of some nodes hold the next one, and the last one what end
// returns, on the side of the key, and returns the first.
func (w way) relink(l []node, end func() int) int {
	if len(l) == 0 {
		return end()
	}
	return w.edit(l[0], func(n *node) { n.kids[n.side(w.key)] = w.relink(l[1:], end) })
}

// part parts nodes, each of which holds the next one, at the key, and returns what
// has lesser keys and what has greater ones.
func (w way) part(l []node) [2]int {
	var parts [2]int
	if len(l) == 0 {
		return parts
	}
	toward := l[0].side(w.key)
	whole := w.edit(l[0], func(n *node) {
		parts = w.part(l[1:])
		n.kids[toward] = parts[1-toward]
	})
	parts[1-toward] = whole
	return parts
}
