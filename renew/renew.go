// Package renew changes cells that may be shared, for the layers whose
// collections last. A change that has an owner may change a cell in place;
// otherwise the cell remains, and another one is made.
package renew

import "easement/arena"

// alone tells whether a cell may be changed in place: it was made with the
// owner, and has no other reference than that of the one who changes it. The
// cell 0, which there is not, never may.
func alone(a *arena.Arena, i int, owner uint32) bool {
	if owner == 0 || a.Refs(i) != 1 {
		return false
	}
	c, _ := a.Get(i)
	return c.Owner == owner
}

// Fresh is how many cells must be made for a change of these, each of which
// holds the next: all from the first one on that may not be changed in place,
// since what a shared cell holds is shared too. Without an owner that is all.
func Fresh(a *arena.Arena, owner uint32, path ...int) int {
	for k, i := range path {
		if !alone(a, i, owner) {
			return len(path) - k
		}
	}
	return 0
}

// Begin tells whether there is room for so many cells more; then the references
// to those that are held are those of the change. Without an owner what holds
// them remains, and the change needs references of its own.
func Begin(a *arena.Arena, owner uint32, need int, held ...int) bool {
	if a.Room() < need {
		return false
	}
	if owner == 0 {
		for _, i := range held {
			a.Keep(i)
		}
	}
	return true
}

// Cell changes a cell, in place if that may be, otherwise as a new cell, which
// it returns. The caller's reference to the old one becomes that to the new one.
// The function change is handed the contents, and with them the references to
// the Kids, and returns what the cell then has. Each cell that a change may need
// has room already, so that none fails halfway.
func Cell(a *arena.Arena, i int, owner uint32, change func(arena.Cell) arena.Cell) int {
	c, _ := a.Get(i)
	if alone(a, i, owner) {
		a.Edit(i, owner, change(c))
		return i
	}
	for _, k := range c.Kids {
		a.Keep(k)
	}
	c.Owner = owner
	made, _ := a.Make(change(c))
	a.Drop(i)
	return made
}
