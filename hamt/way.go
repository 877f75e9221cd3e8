package hamt

import (
	"sort"

	"easement/arena"
	"easement/digit"
	"easement/value"
)

// A map's cells are leaves and branches. A leaf has the pairs of one hash: each
// key with its value behind it, in the order of keys. A branch has a Kid for each
// digit that the hashes below it have at its level, in the order of digits; the
// lower digits are the same in all of them. There is no branch where there is
// only one digit, so each has two Kids or more, and there are fewer branches
// than leaves. B is the level, which rises from the root on, and A the set of
// digits. The level of a leaf is digit.Deep: behind the last digit.

// above is the level ahead of that of any root.
const above = -1

// sound tells whether a cell may be one of a map. All others are passed over, so
// that what no call returned does no harm.
func sound(c arena.Cell) bool {
	if c.B < digit.Deep {
		return len(c.Kids) > 1 && len(c.Kids) == digit.Set(c.A).Len()
	}
	return len(c.Vals) > 0
}

// below is a cell that is deeper than a level; false: there is none. As levels
// rise, no walk is longer than there are levels.
func (x Land) below(i, level int) (arena.Cell, bool) {
	c, ok := x.Get(i)
	if !ok || int(c.B) <= level || !sound(c) {
		return arena.Cell{}, false
	}
	return c, true
}

// side is the place of the Kid of a branch below which a hash is, or would be
// nearest to the others: where no hash has its digit, all are equally near.
func side(c arena.Cell, hash uint64) int {
	s := digit.Set(c.A)
	d := digit.At(hash, int(c.B))
	if !s.Has(d) {
		return 0
	}
	return s.Place(d)
}

// find is the place of a key among the pairs of a leaf, or where it should be.
func find(l []value.Value, k value.Value) (int, bool) {
	i, has := sort.Find(len(l)/2, func(i int) int { return value.Compare(k, l[2*i]) })
	return 2 * i, has
}

// way is the way from the root of a map to the leaf that is nearest to a key:
// no other hash has more of its lowest digits in common with the key's.
type way struct {
	Land
	owner  uint32
	hash   uint64
	root   int
	cells  []int         // from the root to the leaf; none in the empty map
	levels []int         // those of the cells
	leaf   []value.Value // the pairs of the leaf
	at     int           // where the key is among them, or should be
	has    bool
}

// wayTo is the way to a key, for a change with an owner. A land that lacks a part
// has only the empty map, whatever it is handed.
func (x Land) wayTo(m Map, k value.Value, owner uint32) way {
	none := way{Land: x, owner: owner}
	if x.lacks() {
		return none
	}
	w := way{Land: x, owner: owner, hash: x.Of(k), root: m.Root}
	for i, level := m.Root, above; level < digit.Deep; {
		c, ok := x.below(i, level)
		if !ok {
			return none
		}
		level = int(c.B)
		w.cells = append(w.cells, i)
		w.levels = append(w.levels, level)
		if level < digit.Deep {
			i = c.Kids[side(c, w.hash)]
		}
		w.leaf = c.Vals
	}
	w.at, w.has = find(w.leaf, k)
	return w
}

// parting is the first level at which two hashes have different digits;
// digit.Deep: there is none.
func parting(g, h uint64) int {
	level := 0
	for level < digit.Deep && digit.At(g, level) == digit.At(h, level) {
		level++
	}
	return level
}

// visit yields the pairs of a cell and of all below it, in the order of keys;
// false: yield has ended that.
func (x Land) visit(i, level int, yield func(Pair) bool) bool {
	c, _ := x.below(i, level)
	for at := 0; at+1 < len(c.Vals); at += 2 {
		if !yield(Pair{Key: c.Vals[at], Value: c.Vals[at+1]}) {
			return false
		}
	}
	for _, k := range c.Kids {
		if !x.visit(k, int(c.B), yield) {
			return false
		}
	}
	return true
}
