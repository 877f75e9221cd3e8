package treap

import (
	"easement/arena"
	"easement/hamt"
	"easement/value"
)

// A tree's cells are its nodes, one for each key. The Vals of a node are its key
// and the value, its Kids the nodes of lesser and of greater keys, and A and B the
// halves of its rank, which is the hash of the key. No node ranks above the one
// that holds it. So the keys of a tree alone tell its shape, whatever the order in
// which they came, and the ways from the root are as short as those of keys that
// come in no order.

// The sides of a node, by which its Kids are numbered.
const (
	lesser = iota
	greater
)

// place is where a node may be: the cell, the keys between which its own must be
// (nil: any may be there), and whether what holds it is made anew by a change (1),
// so that the cell is shared then.
type place struct {
	cell   int
	limits [2]*value.Value
	shared int
}

// node is a cell of a tree, with its place, and how many cells a change of it makes.
type node struct {
	hamt.Pair
	place
	rank  uint64
	kids  [2]int
	fresh int
}

// side is the side of a node on which another key is, or would be.
func (n node) side(k value.Value) int {
	if value.Compare(k, n.Key) < 0 {
		return lesser
	}
	return greater
}

// below is the place of a Kid of a node.
func (n node) below(side int) place {
	p := place{cell: n.kids[side], limits: n.limits, shared: n.fresh}
	key := n.Key
	p.limits[1-side] = &key
	return p
}

// admits tells whether a key is between the limits of a place.
func (p place) admits(k value.Value) bool {
	low, high := p.limits[lesser], p.limits[greater]
	return (low == nil || value.Compare(*low, k) < 0) && (high == nil || value.Compare(k, *high) < 0)
}

// above tells whether a node ranks above another one. Of those whose hashes are
// one the lesser key does, so that one of any two is above the other.
func (n node) above(other node) bool {
	if n.rank != other.rank {
		return n.rank > other.rank
	}
	return value.Compare(n.Key, other.Key) < 0
}

// pack is what the cell of a node has.
func (n node) pack(owner uint32) arena.Cell {
	return arena.Cell{
		Owner: owner,
		A:     uint32(n.rank >> 32),
		B:     uint32(n.rank),
		Vals:  []value.Value{n.Key, n.Value},
		Kids:  n.kids[:],
	}
}

// read is the node at a place; false: there is none. A cell that can't be a node,
// or can't be there, is passed over, so that what no call returned does no harm:
// as each way narrows the limits, no cell is met twice.
func read(x hamt.Land, p place) (node, bool) {
	c, ok := x.Get(p.cell)
	if lacks(x) || !ok || len(c.Vals) != 2 || len(c.Kids) != 2 || !p.admits(c.Vals[0]) {
		return node{}, false
	}
	return node{
		Pair:  hamt.Pair{Key: c.Vals[0], Value: c.Vals[1]},
		place: p,
		rank:  uint64(c.A)<<32 | uint64(c.B),
		kids:  [2]int{c.Kids[lesser], c.Kids[greater]},
	}, true
}

// visit yields the pairs of what is at a place, by key; false: yield has ended that.
func visit(x hamt.Land, p place, yield func(hamt.Pair) bool) bool {
	n, ok := read(x, p)
	return !ok || visit(x, n.below(lesser), yield) && yield(n.Pair) && visit(x, n.below(greater), yield)
}
