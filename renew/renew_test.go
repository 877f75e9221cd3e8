package renew_test

import (
	"slices"
	"testing"

	"easement/api"
	"easement/arena"
	"easement/renew"
	"easement/value"
)

// room is an arena with room for so many cells.
func room(t *testing.T, most int) *arena.Arena {
	t.Helper()
	a, e := arena.New(most)
	if e != api.OK {
		t.Fatalf("New(%d) returns %d", most, e)
	}
	return a
}

// chain is an arena with cells of these owners, each of which holds the next, and their numbers.
func chain(t *testing.T, owners ...uint32) (*arena.Arena, []int) {
	t.Helper()
	a := room(t, 20)
	l := make([]int, len(owners))
	kid := 0
	for i := len(owners) - 1; i >= 0; i-- {
		kid, _ = a.Make(arena.Cell{Owner: owners[i], A: uint32(i), Kids: []int{kid}})
		l[i] = kid
	}
	return a, l
}

// A change needs new cells from the first one on that is another owner's, is shared, or isn't there.
func TestFresh(t *testing.T) {
	for _, c := range []struct {
		owners []uint32
		shared int
		owner  uint32
		want   int
	}{
		{nil, -1, 5, 0},
		{[]uint32{5, 5, 5}, -1, 5, 0},
		{[]uint32{5, 5, 5}, -1, 6, 3},
		{[]uint32{5, 5, 5}, -1, 0, 3},
		{[]uint32{0, 0}, -1, 0, 2},
		{[]uint32{5, 6, 5}, -1, 5, 2},
		{[]uint32{5, 5, 6}, -1, 5, 1},
		{[]uint32{5, 5, 5}, 0, 5, 3},
		{[]uint32{5, 5, 5}, 1, 5, 2},
		{[]uint32{5, 5, 5}, 2, 5, 1},
	} {
		a, l := chain(t, c.owners...)
		if c.shared >= 0 {
			a.Keep(l[c.shared])
		}
		if got := renew.Fresh(a, c.owner, l...); got != c.want {
			t.Errorf("cells of %v, of which %d is shared, for %d: %d must be made, want %d", c.owners, c.shared, c.owner, got, c.want)
		}
	}
	if got := renew.Fresh(room(t, 3), 5, 0, 7); got != 2 {
		t.Errorf("of two cells that there are not %d must be made", got)
	}
}

// References are added without an owner alone, and only if there is room.
func TestBegin(t *testing.T) {
	for _, c := range []struct {
		owner uint32
		need  int
		want  bool
		refs  int
	}{{0, 0, true, 2}, {0, 2, true, 2}, {0, 3, false, 1}, {5, 0, true, 1}, {5, 2, true, 1}, {5, 3, false, 1}} {
		a := room(t, 4)
		i, _ := a.Make(arena.Cell{Owner: 5})
		k, _ := a.Make(arena.Cell{})
		if got := renew.Begin(a, c.owner, c.need, i, 0, k); got != c.want || a.Refs(i) != c.refs || a.Refs(k) != c.refs {
			t.Errorf("with room for 2 of %d cells, for %d: %t, and %d and %d references", c.need, c.owner, got, a.Refs(i), a.Refs(k))
		}
	}
}

// A cell of the owner's that nobody else holds is changed in place; otherwise a new one of the owner's has what the change returns, and the old one is as it was.
func TestCell(t *testing.T) {
	for _, c := range []struct {
		maker, owner uint32
		shared, same bool
	}{{5, 5, false, true}, {5, 5, true, false}, {5, 6, false, false}, {5, 6, true, false}, {0, 5, true, false}, {5, 0, true, false}, {0, 0, true, false}} {
		a := room(t, 9)
		kid, _ := a.Make(arena.Cell{A: 1})
		other, _ := a.Make(arena.Cell{A: 2})
		old := arena.Cell{Owner: c.maker, A: 3, Vals: []value.Value{value.Number(4)}, Kids: []int{kid, 0}}
		i, _ := a.Make(old)
		if c.shared {
			a.Keep(i)
		}
		got := renew.Cell(a, i, c.owner, func(was arena.Cell) arena.Cell {
			if was.A != 3 || !slices.Equal(was.Vals, old.Vals) || !slices.Equal(was.Kids, old.Kids) {
				t.Errorf("the change is handed %v", was)
			}
			was.A = 4
			was.Kids[1] = other
			return was
		})
		now, _ := a.Get(got)
		if (got == i) != c.same || now.Owner != c.owner || now.A != 4 || !slices.Equal(now.Kids, []int{kid, other}) || a.Refs(got) != 1 {
			t.Errorf("cell %d of %d, changed by %d, becomes %d: %v", i, c.maker, c.owner, got, now)
		}
		if was, _ := a.Get(i); c.shared && (was.A != 3 || was.Owner != c.maker || !slices.Equal(was.Kids, old.Kids) || a.Refs(kid) != 2) {
			t.Errorf("the old cell is %v, and its Kid has %d references", was, a.Refs(kid))
		}
		if c.shared {
			a.Drop(i)
		}
		a.Drop(got)
		if a.Live() != 0 {
			t.Errorf("%d cells are live behind the last Drop", a.Live())
		}
	}
}

// The cell 0, which there is not, becomes a new one.
func TestCellOfNone(t *testing.T) {
	for _, owner := range []uint32{0, 5} {
		a := room(t, 1)
		i := renew.Cell(a, 0, owner, func(c arena.Cell) arena.Cell {
			c.B = 7
			return c
		})
		if c, ok := a.Get(i); !ok || c.B != 7 || c.Owner != owner || a.Refs(i) != 1 {
			t.Errorf("the new cell is %v, %t", c, ok)
		}
	}
}
