package pvec

import "easement/arena"

// alone tells whether a cell may be changed in place: it was made with the
// owner, and has no other reference than that of the one who changes it. The
// cell 0, which there is not, never may.
func alone(a *arena.Arena, i int, owner uint32) bool {
	if owner == 0 || a.Refs(i) != 1 {
		return false
	}
	c, _ := a.Get(i)
	return c.Owner == owner
}

// fresh is how many cells must be made for a change of these, each of which
// holds the next: all from the first one on that may not be changed in place,
// since what a shared cell holds is shared too.
func fresh(a *arena.Arena, owner uint32, path ...int) int {
	for k, i := range path {
		if !alone(a, i, owner) {
			return len(path) - k
		}
	}
	return 0
}

// begin tells whether there is room for so many cells more; then the references
// of the vector are those of the change. Without an owner the vector remains,
// and the change needs references of its own.
func begin(a *arena.Arena, v Vec, owner uint32, need int) bool {
	if a.Room() < need {
		return false
	}
	if owner == 0 {
		Keep(a, v)
	}
	return true
}

// renew changes a cell, in place if that may be, otherwise as a new cell, which
// it returns. The caller's reference to the old one becomes that to the new one.
// The function change is handed the contents, and with them the references to
// the Kids, and returns what the cell then has. Each cell that a change may need
// has room already, so that none fails halfway.
func renew(a *arena.Arena, i int, owner uint32, change func(arena.Cell) arena.Cell) int {
	c, _ := a.Get(i)
	if alone(a, i, owner) {
		a.Edit(i, owner, change(c))
		return i
	}
	for _, k := range c.Kids {
		a.Keep(k)
	}
	c.Owner = owner
	made, _ := a.Make(change(c))
	a.Drop(i)
	return made
}
