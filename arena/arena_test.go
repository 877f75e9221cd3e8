package arena_test

import (
	"math"
	"slices"
	"strings"
	"testing"

	"easement/api"
	"easement/arena"
	"easement/value"
)

// room is an arena with room for so many cells.
func room(t *testing.T, most int) *arena.Arena {
	t.Helper()
	a, e := arena.New(most)
	if e != api.OK || a == nil {
		t.Fatalf("New(%d) returns %v, %d", most, a, e)
	}
	return a
}

// put makes a cell, and checks what Make promises of its number.
func put(t *testing.T, a *arena.Arena, c arena.Cell) int {
	t.Helper()
	held := map[int]int{}
	for i := range 64 {
		held[i] = a.Refs(i)
	}
	live := a.Live()
	i, e := a.Make(c)
	if e != api.OK || i < 1 || held[i] != 0 {
		t.Fatalf("Make returns %d, %d; it had %d references before", i, e, held[i])
	}
	if a.Refs(i) != 1 || a.Live() != live+1 {
		t.Fatalf("a new cell has %d references, and %d of %d cells are live", a.Refs(i), a.Live(), live)
	}
	for k, n := range held {
		if k != i && a.Refs(k) != n {
			t.Fatalf("Make changes the references to %d from %d to %d", k, n, a.Refs(k))
		}
	}
	return i
}

// with is a cell with so many Kids.
func with(kids ...int) arena.Cell { return arena.Cell{Kids: kids} }

// full is a cell that has all there is to have.
func full(owner uint32, kids ...int) arena.Cell {
	return arena.Cell{
		Owner: owner, A: math.MaxUint32, B: 7,
		Vals: []value.Value{value.Number(-1), value.Text("x"), {}, value.Truth(true)},
		Kids: kids,
	}
}

// same tells whether two cells have the same contents; a nil list is one without elements.
func same(a, b arena.Cell) bool {
	return a.Owner == b.Owner && a.A == b.A && a.B == b.B && slices.Equal(a.Vals, b.Vals) && slices.Equal(a.Kids, b.Kids)
}

// empty tells whether a cell is the zero value.
func empty(c arena.Cell) bool { return same(c, arena.Cell{}) }

// has checks the contents of a cell and the references to it.
func has(t *testing.T, a *arena.Arena, i int, want arena.Cell, refs int) {
	t.Helper()
	got, ok := a.Get(i)
	if !ok || !same(got, want) {
		t.Errorf("Get(%d) returns %v, %t; want %v", i, got, ok, want)
	}
	if a.Refs(i) != refs {
		t.Errorf("Refs(%d) is %d, want %d", i, a.Refs(i), refs)
	}
}

// hasNot checks that no cell i is held, by what each function with a number says.
func hasNot(t *testing.T, a *arena.Arena, i int) {
	t.Helper()
	live, space := a.Live(), a.Room()
	if c, ok := a.Get(i); ok || !empty(c) {
		t.Errorf("Get(%d) returns %v, %t", i, c, ok)
	}
	if n := a.Refs(i); n != 0 {
		t.Errorf("Refs(%d) is %d", i, n)
	}
	if e := a.Keep(i); e != api.ErrNone {
		t.Errorf("Keep(%d) returns %d", i, e)
	}
	if e := a.Drop(i); e != api.ErrNone {
		t.Errorf("Drop(%d) returns %d", i, e)
	}
	for _, owner := range []uint32{0, 1, 5} {
		for _, c := range []arena.Cell{{}, full(owner), with(-1)} {
			if e := a.Edit(i, owner, c); e != api.ErrNone {
				t.Errorf("Edit(%d, %d, %v) returns %d", i, owner, c, e)
			}
		}
	}
	if a.Live() != live || a.Room() != space || a.Refs(i) != 0 {
		t.Errorf("calls for no cell %d changed something", i)
	}
}

// counts checks Live and Room.
func counts(t *testing.T, a *arena.Arena, live, space int) {
	t.Helper()
	if a.Live() != live || a.Room() != space {
		t.Errorf("Live is %d, Room is %d; want %d and %d", a.Live(), a.Room(), live, space)
	}
}

// fine checks that a call returned OK.
func fine(t *testing.T, e api.Errno) {
	t.Helper()
	if e != api.OK {
		t.Errorf("a call returns %d", e)
	}
}

// P4.1: which room an arena may have; a new one has no cells.
func TestNew(t *testing.T) {
	for _, most := range []int{1, 2, 1000, 1<<20 - 1, 1 << 20} {
		a := room(t, most)
		counts(t, a, 0, most)
		for _, i := range []int{math.MinInt, -1, 0, 1, 2, most, most + 1, math.MaxInt} {
			hasNot(t, a, i)
		}
	}
	for _, most := range []int{0, -1, -1 << 20, math.MinInt, 1<<20 + 1, 1 << 21, 1 << 32, 1<<32 + 1, math.MaxInt} {
		if a, e := arena.New(most); a != nil || e != api.ErrArg {
			t.Errorf("New(%d) returns %v, %d", most, a, e)
		}
	}
}

// The example of the chapter.
func TestExample(t *testing.T) {
	a := room(t, 1)
	i := put(t, a, arena.Cell{})
	fine(t, a.Keep(i))
	fine(t, a.Drop(i))
	has(t, a, i, arena.Cell{}, 1)
}

// P4.1: cells are what was made, whatever they have, and each has a number of its own.
func TestMake(t *testing.T) {
	a := room(t, 10)
	one := put(t, a, full(0))
	two := put(t, a, full(5, one, 0))
	cells := []arena.Cell{
		{}, {Owner: math.MaxUint32}, {A: 1}, {B: 1}, {Vals: make([]value.Value, 3)}, {Kids: make([]int, 40)},
		{Vals: []value.Value{{Kind: 9, N: 1, S: "x"}, value.Text(strings.Repeat("x", 5000))}},
	}
	numbers := []int{one, two}
	for n, c := range cells {
		i := put(t, a, c)
		if slices.Contains(numbers, i) {
			t.Fatalf("the number %d is used twice", i)
		}
		numbers = append(numbers, i)
		counts(t, a, 3+n, 7-n)
	}
	has(t, a, one, full(0), 1)
	has(t, a, two, full(5, one, 0), 1)
	for n, c := range cells {
		has(t, a, numbers[n+2], c, 1)
	}
	beyond := slices.Max(numbers) + 1
	for _, i := range []int{0, -1, -one, -two, beyond, beyond + 1, 1 << 32, 1<<32 + one, math.MinInt, math.MaxInt} {
		hasNot(t, a, i)
	}
}

// P4.1: a full arena makes no cell, until one is freed.
func TestFull(t *testing.T) {
	for _, most := range []int{1, 2, 33} {
		a := room(t, most)
		var l []int
		for n := range most {
			counts(t, a, n, most-n)
			l = append(l, put(t, a, arena.Cell{A: uint32(n)}))
		}
		counts(t, a, most, 0)
		for _, c := range []arena.Cell{{}, full(3), with(0), with(l[0], 0)} {
			if i, e := a.Make(c); i != 0 || e != api.ErrFull {
				t.Errorf("Make in a full arena returns %d, %d", i, e)
			}
		}
		for _, k := range []int{-1, most + 1, math.MaxInt, math.MinInt} {
			if i, e := a.Make(with(l[0], k)); i != 0 || e != api.ErrArg {
				t.Errorf("Make of the Kid %d in a full arena returns %d, %d", k, i, e)
			}
		}
		counts(t, a, most, 0)
		for n, i := range l {
			has(t, a, i, arena.Cell{A: uint32(n)}, 1)
		}
		fine(t, a.Drop(l[most/2]))
		counts(t, a, most-1, 1)
		put(t, a, full(1))
		counts(t, a, most, 0)
	}
}

// P4.1: which Kids may be, and that a refused cell leaves all as it was.
func TestKids(t *testing.T) {
	a := room(t, 20)
	one, two, gone := put(t, a, full(1)), put(t, a, full(2)), put(t, a, full(3))
	fine(t, a.Drop(gone))
	beyond := max(one, two, gone) + 1
	for _, k := range []int{gone, beyond, beyond + 7, 20, 21, 1 << 20, 1 << 32, 1<<32 + one, -1, -one, math.MinInt, math.MaxInt} {
		for _, kids := range [][]int{{k}, {k, one}, {one, k}, {0, k, 0}, {one, two, 0, k}, {k, k}} {
			if i, e := a.Make(with(kids...)); i != 0 || e != api.ErrArg {
				t.Fatalf("Make of the Kids %v returns %d, %d", kids, i, e)
			}
		}
	}
	counts(t, a, 2, 18)
	has(t, a, one, full(1), 1)
	has(t, a, two, full(2), 1)
	hasNot(t, a, gone)
	fine(t, a.Keep(one))
	for _, kids := range [][]int{{}, {0}, {0, 0, 0}, {one, one}, {two, 0}} {
		has(t, a, put(t, a, with(kids...)), with(kids...), 1)
	}
	has(t, a, one, full(1), 2)
	has(t, a, two, full(2), 1)
}

// P4.2: a cell is held until it is dropped as often as it was made and kept.
func TestKeep(t *testing.T) {
	a := room(t, 3)
	other := put(t, a, full(9))
	i := put(t, a, full(4))
	for n := range 1000 {
		has(t, a, i, full(4), n+1)
		fine(t, a.Keep(i))
	}
	counts(t, a, 2, 1)
	for n := range 1000 {
		has(t, a, i, full(4), 1001-n)
		fine(t, a.Drop(i))
	}
	has(t, a, i, full(4), 1)
	fine(t, a.Drop(i))
	hasNot(t, a, i)
	counts(t, a, 1, 2)
	has(t, a, other, full(9), 1)
}

// P4.1, P4.2: a freed cell is gone, and a cell that has its number later has nothing of it.
func TestFreed(t *testing.T) {
	a := room(t, 2)
	i := put(t, a, full(4))
	fine(t, a.Keep(i))
	fine(t, a.Drop(i))
	fine(t, a.Drop(i))
	hasNot(t, a, i)
	counts(t, a, 0, 2)
	one := put(t, a, arena.Cell{B: 1})
	two := put(t, a, arena.Cell{B: 2})
	has(t, a, one, arena.Cell{B: 1}, 1)
	has(t, a, two, arena.Cell{B: 2}, 1)
	for _, c := range []int{one, two} {
		if e := a.Edit(c, 4, arena.Cell{}); e != api.ErrState {
			t.Errorf("the owner of a freed cell edits another: %d", e)
		}
	}
	fine(t, a.Drop(two))
	hasNot(t, a, two)
	has(t, a, one, arena.Cell{B: 1}, 1)
}

// P4.1: an arena has room again for as many cells as are freed, however often.
func TestAgainAndAgain(t *testing.T) {
	a := room(t, 3)
	for n := range 10000 {
		leaf := put(t, a, arena.Cell{A: uint32(n)})
		fine(t, a.Keep(leaf))
		root := put(t, a, with(leaf, leaf))
		counts(t, a, 2, 1)
		fine(t, a.Drop(root))
		counts(t, a, 0, 3)
	}
}

// P4.2: Kids that others hold stay, with one reference less for each time that the cell had them.
func TestDropWithHeldKids(t *testing.T) {
	a := room(t, 10)
	leaf := put(t, a, full(1))
	other := put(t, a, full(2))
	for range 3 {
		fine(t, a.Keep(leaf))
	}
	root := put(t, a, with(leaf, 0, leaf, other))
	fine(t, a.Keep(other))
	has(t, a, leaf, full(1), 4)
	has(t, a, other, full(2), 2)
	fine(t, a.Drop(root))
	hasNot(t, a, root)
	has(t, a, leaf, full(1), 2)
	has(t, a, other, full(2), 1)
	counts(t, a, 2, 8)
}

// P4.2: a cell that is still held holds its Kids; once it is freed, Kids that nobody else holds are freed with it.
func TestDropWithOwnKids(t *testing.T) {
	a := room(t, 10)
	leaf := put(t, a, full(1))
	fine(t, a.Keep(leaf))
	middle := put(t, a, with(leaf, leaf, 0))
	kept := put(t, a, full(2))
	fine(t, a.Keep(kept))
	root := put(t, a, with(middle, kept))
	fine(t, a.Keep(root))
	fine(t, a.Drop(root))
	has(t, a, root, with(middle, kept), 1)
	has(t, a, middle, with(leaf, leaf, 0), 1)
	has(t, a, leaf, full(1), 2)
	counts(t, a, 4, 6)
	fine(t, a.Drop(root))
	for _, i := range []int{root, middle, leaf} {
		hasNot(t, a, i)
	}
	has(t, a, kept, full(2), 1)
	counts(t, a, 1, 9)
}

// P4.2: a chain stops being freed where somebody else holds a cell.
func TestDropUpToHeld(t *testing.T) {
	a := room(t, 5)
	last := put(t, a, full(1))
	held := put(t, a, with(last))
	fine(t, a.Keep(held))
	first := put(t, a, with(put(t, a, with(held))))
	fine(t, a.Drop(first))
	counts(t, a, 2, 3)
	has(t, a, held, with(last), 1)
	has(t, a, last, full(1), 1)
	fine(t, a.Drop(held))
	counts(t, a, 0, 5)
}

// P4.1, P4.2, P4.3: the longest chain that there may be is let go at once.
func TestLongChain(t *testing.T) {
	const most = 1 << 20
	a := room(t, most)
	last, first := 0, 0
	for n := range most {
		i, e := a.Make(with(first))
		if e != api.OK {
			t.Fatalf("cell %d is not made: %d", n, e)
		}
		if n == 0 {
			last = i
		}
		first = i
	}
	counts(t, a, most, 0)
	if i, e := a.Make(arena.Cell{}); i != 0 || e != api.ErrFull {
		t.Errorf("Make in a full arena returns %d, %d", i, e)
	}
	fine(t, a.Keep(last))
	fine(t, a.Drop(first))
	counts(t, a, 1, most-1)
	has(t, a, last, with(0), 1)
	fine(t, a.Drop(last))
	counts(t, a, 0, most)
}

// P4.2: a cell with very many Kids lets each of them go.
func TestManyKids(t *testing.T) {
	const many = 1 << 16
	a := room(t, many+2)
	shared := put(t, a, arena.Cell{})
	kids := make([]int, 0, 2*many)
	for range many {
		i, _ := a.Make(arena.Cell{})
		fine(t, a.Keep(shared))
		kids = append(kids, i, shared)
	}
	root := put(t, a, with(kids...))
	if n := a.Refs(shared); n != many+1 {
		t.Errorf("the Kid that occurs most often has %d references", n)
	}
	fine(t, a.Drop(root))
	counts(t, a, 1, many+1)
	has(t, a, shared, arena.Cell{}, 1)
}

// P4.2: whom Edit refuses, in the order of its errors, and that nothing changes by it.
func TestEditRefused(t *testing.T) {
	a := room(t, 10)
	leaf, gone := put(t, a, full(1)), put(t, a, full(1))
	owned, free, shared := put(t, a, full(5, leaf)), put(t, a, full(0)), put(t, a, full(5))
	fine(t, a.Drop(gone))
	fine(t, a.Keep(shared))
	for _, c := range []struct {
		name  string
		i     int
		owner uint32
		kids  []int
		want  api.Errno
	}{
		{"owner 0", owned, 0, nil, api.ErrState},
		{"owner 0 of a cell without owner", free, 0, nil, api.ErrState},
		{"an owner of a cell without owner", free, 5, nil, api.ErrState},
		{"another owner", owned, 6, nil, api.ErrState},
		{"the greatest owner", owned, math.MaxUint32, nil, api.ErrState},
		{"two references", shared, 5, nil, api.ErrState},
		{"two references and another owner", shared, 6, nil, api.ErrState},
		{"owner 0 ahead of a bad Kid", owned, 0, []int{-1}, api.ErrState},
		{"another owner ahead of a bad Kid", owned, 6, []int{-1}, api.ErrState},
		{"two references ahead of a bad Kid", shared, 5, []int{gone}, api.ErrState},
		{"a Kid below 0", owned, 5, []int{-1}, api.ErrArg},
		{"a freed Kid", owned, 5, []int{leaf, 0, gone}, api.ErrArg},
		{"a Kid beyond every cell", owned, 5, []int{11, leaf}, api.ErrArg},
		{"the greatest Kid", owned, 5, []int{math.MaxInt}, api.ErrArg},
		{"the least Kid", owned, 5, []int{math.MinInt}, api.ErrArg},
	} {
		if e := a.Edit(c.i, c.owner, arena.Cell{Owner: 5, A: 1, Kids: c.kids}); e != c.want {
			t.Errorf("%s: Edit returns %d, want %d", c.name, e, c.want)
		}
		has(t, a, owned, full(5, leaf), 1)
		has(t, a, free, full(0), 1)
		has(t, a, shared, full(5), 2)
		has(t, a, leaf, full(1), 1)
		counts(t, a, 4, 6)
	}
	fine(t, a.Drop(shared))
	fine(t, a.Edit(shared, 5, arena.Cell{}))
}

// P4.2: an edited cell has the contents that it got, and its owner; its lists may be longer or shorter.
func TestEdit(t *testing.T) {
	a := room(t, 1)
	i := put(t, a, full(5))
	for _, c := range []arena.Cell{
		{}, full(5), full(0), full(6), {Owner: math.MaxUint32, A: 3, B: 4}, {Vals: make([]value.Value, 100)}, with(0, 0), {Vals: []value.Value{{Kind: 8}}},
	} {
		fine(t, a.Edit(i, 5, c))
		c.Owner = 5
		has(t, a, i, c, 1)
		counts(t, a, 1, 0)
		if e := a.Edit(i, 6, arena.Cell{}); e != api.ErrState {
			t.Errorf("the owner that was handed in counts: %d", e)
		}
	}
	fine(t, a.Drop(i))
	counts(t, a, 0, 1)
}

// P4.2: Edit changes no count; the references to Kids go over to the cell and to the caller.
func TestEditKids(t *testing.T) {
	a := room(t, 10)
	one, two, three := put(t, a, full(1)), put(t, a, full(2)), put(t, a, full(3))
	root := put(t, a, full(5, one, two))
	refs := func(l ...int) {
		t.Helper()
		if got := []int{a.Refs(one), a.Refs(two), a.Refs(three), a.Refs(root)}; !slices.Equal(got, l) {
			t.Errorf("the references are %v, want %v", got, l)
		}
	}
	fine(t, a.Edit(root, 5, with(one, two)))
	refs(1, 1, 1, 1)
	fine(t, a.Edit(root, 5, with(two, 0, one)))
	refs(1, 1, 1, 1)
	fine(t, a.Edit(root, 5, with(two, three)))
	refs(1, 1, 1, 1)
	counts(t, a, 4, 6)
	fine(t, a.Drop(one))
	hasNot(t, a, one)
	fine(t, a.Keep(two))
	fine(t, a.Edit(root, 5, with(two, two, three)))
	refs(0, 2, 1, 1)
	fine(t, a.Edit(root, 5, with(three)))
	refs(0, 2, 1, 1)
	fine(t, a.Drop(root))
	refs(0, 2, 0, 0)
	counts(t, a, 1, 9)
	fine(t, a.Drop(two))
	fine(t, a.Drop(two))
	counts(t, a, 0, 10)
}

// P4.2: an edited cell that is freed lets go the Kids that it has then.
func TestEditThenDrop(t *testing.T) {
	a := room(t, 10)
	old, young := put(t, a, full(1)), put(t, a, full(2))
	root := put(t, a, full(5, old))
	fine(t, a.Edit(root, 5, with(young)))
	fine(t, a.Drop(root))
	hasNot(t, a, young)
	has(t, a, old, full(1), 1)
}

// P4.2: Edit needs no room.
func TestEditWhenFull(t *testing.T) {
	a := room(t, 2)
	leaf := put(t, a, arena.Cell{})
	i := put(t, a, full(5))
	counts(t, a, 2, 0)
	fine(t, a.Edit(i, 5, with(leaf)))
	has(t, a, i, arena.Cell{Owner: 5, Kids: []int{leaf}}, 1)
	if e := a.Edit(i, 5, with(3)); e != api.ErrArg {
		t.Errorf("Edit with a bad Kid returns %d", e)
	}
	fine(t, a.Drop(i))
	counts(t, a, 0, 2)
}

// P1: cells that reach themselves, and Kids that were dropped too often, are let go too, and each of them once.
func TestStrangeCounts(t *testing.T) {
	a := room(t, 4)
	self := put(t, a, full(5))
	fine(t, a.Edit(self, 5, with(self, self)))
	fine(t, a.Drop(self))
	hasNot(t, a, self)
	one := put(t, a, full(5))
	two := put(t, a, with(one))
	fine(t, a.Edit(one, 5, with(two)))
	fine(t, a.Drop(one))
	counts(t, a, 0, 4)
	leaf := put(t, a, arena.Cell{})
	root := put(t, a, with(leaf, leaf))
	fine(t, a.Drop(root))
	counts(t, a, 0, 4)
	leaf = put(t, a, arena.Cell{})
	root = put(t, a, with(leaf))
	fine(t, a.Drop(leaf))
	fine(t, a.Drop(root))
	counts(t, a, 0, 4)
	for range 4 {
		put(t, a, arena.Cell{})
	}
	counts(t, a, 4, 0)
}

// P4.1, P4.2, rule 4: a nil arena.
func TestNilArena(t *testing.T) {
	var a *arena.Arena
	counts(t, a, 0, 0)
	for _, i := range []int{math.MinInt, -1, 0, 1, math.MaxInt} {
		hasNot(t, a, i)
	}
	for _, c := range []arena.Cell{{}, full(1), with(0), with(1), with(-1)} {
		if i, e := a.Make(c); i != 0 || e != api.ErrArg {
			t.Errorf("Make(%v) of a nil arena returns %d, %d", c, i, e)
		}
	}
}

// Rules 2 and 3: what is handed in, and what lies behind its length, is as it was, also by a call that is refused; what is made of it doesn't change with it.
func TestArgumentsStay(t *testing.T) {
	a := room(t, 10)
	leaf := put(t, a, arena.Cell{})
	vals := []value.Value{value.Number(1), value.Text("two"), {Kind: 9, N: 9, S: "nine"}, value.Number(4)}
	kids := []int{0, leaf, -5, 99}
	keptVals, keptKids := slices.Clone(vals), slices.Clone(kids)
	c := arena.Cell{Owner: 5, A: 1, B: 2, Vals: vals[:2], Kids: kids[:2]}
	want := arena.Cell{Owner: 5, A: 1, B: 2, Vals: keptVals[:2], Kids: keptKids[:2]}
	made, edited := put(t, a, c), put(t, a, arena.Cell{Owner: 5})
	fine(t, a.Edit(edited, 5, c))
	if _, e := a.Make(arena.Cell{Vals: vals[:1], Kids: kids[:3]}); e != api.ErrArg {
		t.Errorf("Make of a bad Kid returns %d", e)
	}
	if e := a.Edit(edited, 5, arena.Cell{Vals: vals[:1], Kids: kids[:3]}); e != api.ErrArg {
		t.Errorf("Edit with a bad Kid returns %d", e)
	}
	none := put(t, a, arena.Cell{Vals: vals[:0], Kids: kids[:0]})
	has(t, a, none, arena.Cell{}, 1)
	if !slices.Equal(vals, keptVals) || !slices.Equal(kids, keptKids) || !same(c, want) {
		t.Error("what was handed in was changed")
	}
	clear(vals)
	kids[0], kids[1] = 7, 8
	has(t, a, made, want, 1)
	has(t, a, edited, want, 1)
	has(t, a, none, arena.Cell{}, 1)
	fine(t, a.Drop(made))
	hasNot(t, a, leaf)
}

// Rule 3: what Get returned shares no memory with the cell, nor with what Get returns another time.
func TestResultsStay(t *testing.T) {
	a := room(t, 10)
	leaf, other := put(t, a, arena.Cell{}), put(t, a, arena.Cell{})
	i := put(t, a, full(5, leaf, 0))
	one, _ := a.Get(i)
	two, _ := a.Get(i)
	one.A, one.B, one.Owner = 3, 3, 3
	clear(one.Vals)
	one.Kids[0], one.Kids[1] = other, other
	_ = append(one.Vals[:2], value.Number(8), value.Number(9))
	_ = append(one.Kids[:1], -1)
	has(t, a, i, full(5, leaf, 0), 1)
	if !same(two, full(5, leaf, 0)) {
		t.Error("two results share memory")
	}
	_ = append(two.Vals, value.Number(1))
	_ = append(two.Kids, 1)
	fine(t, a.Edit(i, 5, arena.Cell{Vals: []value.Value{value.Number(7)}, Kids: []int{other}}))
	if !same(two, full(5, leaf, 0)) {
		t.Error("a result changes with its cell")
	}
	fine(t, a.Edit(i, 5, two))
	fine(t, a.Drop(i))
	if !same(two, full(5, leaf, 0)) {
		t.Error("a result is gone with its cell")
	}
	hasNot(t, a, leaf)
	has(t, a, other, arena.Cell{}, 1)
}
