package arena_test

import (
	"maps"
	"slices"
	"testing"

	"easement/api"
	"easement/arena"
	"easement/value"
)

// model is what an arena must be, told as plainly as possible: held cells and
// their counts by their numbers, and the references that the caller has.
type model struct {
	most  int
	cells map[int]arena.Cell
	refs  map[int]int
	mine  map[int]int
}

func (m *model) drop(i int) {
	if m.refs[i] == 0 {
		return
	}
	m.refs[i]--
	if m.refs[i] > 0 {
		return
	}
	kids := m.cells[i].Kids
	delete(m.cells, i)
	delete(m.refs, i)
	for _, k := range kids {
		m.drop(k)
	}
}

// lose takes one of the caller's references away.
func (m *model) lose(i int) {
	if m.mine[i]--; m.mine[i] <= 0 {
		delete(m.mine, i)
	}
}

// some is one of the numbers for which the caller has references; 0: it has none.
func (m *model) some(n int) int {
	l := slices.Sorted(maps.Keys(m.mine))
	if len(l) == 0 {
		return 0
	}
	return l[n%len(l)]
}

// numbers returns numbers that follow from a first one alone.
func numbers(n uint64) func(below int) int {
	return func(below int) int {
		n = n*6364136223846793005 + 1442695040888963407
		return int(n >> 33 % uint64(below))
	}
}

// contents is a cell with Kids to which the caller has references, none of them more often than it has.
func (m *model) contents(next func(below int) int) arena.Cell {
	c := arena.Cell{Owner: uint32(next(3)), A: uint32(next(100)), B: uint32(next(100))}
	for range next(4) {
		c.Vals = append(c.Vals, value.Number(int64(next(1000))))
	}
	left := maps.Clone(m.mine)
	for range next(4) {
		k := m.some(next(1000))
		if left[k] == 0 {
			k = 0
		}
		left[k]--
		c.Kids = append(c.Kids, k)
	}
	return c
}

// make1 makes a cell in both, and hands the caller's references to its Kids over.
func (m *model) make1(t *testing.T, a *arena.Arena, c arena.Cell) {
	i, e := a.Make(c)
	if len(m.cells) == m.most {
		if i != 0 || e != api.ErrFull {
			t.Fatalf("Make in a full arena returns %d, %d", i, e)
		}
		return
	}
	if _, ok := m.cells[i]; ok || i < 1 || e != api.OK {
		t.Fatalf("Make returns %d, %d", i, e)
	}
	m.cells[i], m.refs[i] = c, 1
	m.mine[i]++
	for _, k := range c.Kids {
		m.lose(k)
	}
}

// edit edits a cell in both, unless that would let it reach itself, and lets the references to its Kids go over.
func (m *model) edit(t *testing.T, a *arena.Arena, i int, owner uint32, c arena.Cell) {
	if m.reaches(c.Kids, i) {
		return
	}
	want, old := api.OK, m.cells[i]
	switch {
	case m.refs[i] == 0:
		want = api.ErrNone
	case owner == 0 || owner != old.Owner || m.refs[i] > 1:
		want = api.ErrState
	}
	if e := a.Edit(i, owner, c); e != want {
		t.Fatalf("Edit(%d, %d) returns %d, want %d", i, owner, e, want)
	}
	if want != api.OK {
		return
	}
	for _, k := range old.Kids {
		m.mine[k]++
	}
	for _, k := range c.Kids {
		m.lose(k)
	}
	delete(m.mine, 0)
	c.Owner = owner
	m.cells[i] = c
}

// reaches tells whether a cell is one of these, or of their Kids, and so on.
func (m *model) reaches(kids []int, i int) bool {
	for _, k := range kids {
		if k == i || m.reaches(m.cells[k].Kids, i) {
			return true
		}
	}
	return false
}

// agree holds an arena against the model, for all numbers up to beyond the room.
func (m *model) agree(t *testing.T, a *arena.Arena) {
	t.Helper()
	if a.Live() != len(m.cells) || a.Room() != m.most-len(m.cells) {
		t.Fatalf("Live is %d, Room is %d, with %d cells of %d", a.Live(), a.Room(), len(m.cells), m.most)
	}
	for i := -1; i <= m.most+1; i++ {
		want, held := m.cells[i]
		got, ok := a.Get(i)
		if ok != held || !same(got, want) || a.Refs(i) != m.refs[i] {
			t.Fatalf("cell %d is %v, %t with %d references; want %v, %t with %d", i, got, ok, a.Refs(i), want, held, m.refs[i])
		}
	}
}

// step makes one call, for an arena and for the model.
func (m *model) step(t *testing.T, a *arena.Arena, next func(below int) int) {
	i := m.some(next(1000))
	switch next(8) {
	case 0, 1, 2:
		m.make1(t, a, m.contents(next))
	case 3:
		if i != 0 {
			m.refs[i]++
			m.mine[i]++
			fine(t, a.Keep(i))
		}
	case 4, 5:
		if i != 0 {
			m.lose(i)
			m.drop(i)
			fine(t, a.Drop(i))
		}
	case 6, 7:
		m.edit(t, a, i, uint32(next(3)), m.contents(next))
	}
}

// P4.1, P4.2, P4.3: after each of many calls an arena is what the model is; once the caller drops all that it has, no cell is live.
func TestModel(t *testing.T) {
	for seed := range uint64(60) {
		next := numbers(seed)
		most := 1 + next(40)
		a := room(t, most)
		m := &model{most: most, cells: map[int]arena.Cell{}, refs: map[int]int{}, mine: map[int]int{}}
		for range 600 {
			m.step(t, a, next)
			m.agree(t, a)
		}
		for len(m.mine) > 0 {
			i := m.some(next(1000))
			m.lose(i)
			m.drop(i)
			fine(t, a.Drop(i))
			m.agree(t, a)
		}
		counts(t, a, 0, most)
	}
}

// P2: the same calls return the same numbers, whatever is done to another arena between them.
func TestSameCallsSameNumbers(t *testing.T) {
	run := func(other *arena.Arena) []int {
		a := room(t, 20)
		next := numbers(11)
		var l, out []int
		for range 2000 {
			if len(l) > 0 && next(2) == 0 {
				n := next(len(l))
				fine(t, a.Drop(l[n]))
				l = slices.Delete(l, n, n+1)
			} else if i, e := a.Make(arena.Cell{}); e == api.OK {
				l, out = append(l, i), append(out, i)
			}
			if i, e := other.Make(arena.Cell{}); e == api.OK && i%3 == 0 {
				fine(t, other.Drop(i))
			}
		}
		return out
	}
	if !slices.Equal(run(nil), run(room(t, 500))) {
		t.Error("the same calls return other numbers")
	}
}
