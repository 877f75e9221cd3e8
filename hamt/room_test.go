package hamt_test

import (
	"slices"
	"testing"

	"easement/api"
	"easement/arena"
	"easement/hamt"
	"easement/value"
)

// fill makes cells until there is so much room, and returns their numbers.
func fill(t *testing.T, x hamt.Land, left int) []int {
	t.Helper()
	var l []int
	for x.Room() > left {
		i, e := x.Make(arena.Cell{Owner: 5, A: 7})
		if e != api.OK {
			t.Fatal(e)
		}
		l = append(l, i)
	}
	return l
}

// state is what an arena has: each held cell, and the references to it.
type state struct {
	cells []arena.Cell
	refs  []int
}

// look is the state of the arena of a land that had at most so many cells at once.
func look(x hamt.Land, most int) state {
	var s state
	for i := range most + 1 {
		c, _ := x.Get(i)
		s.cells = append(s.cells, c)
		s.refs = append(s.refs, x.Refs(i))
	}
	return s
}

// unchanged checks that the arena of a land has the state that it had.
func unchanged(t *testing.T, x hamt.Land, was state) {
	t.Helper()
	now := look(x, len(was.refs)-1)
	same := slices.EqualFunc(now.cells, was.cells, func(c, d arena.Cell) bool {
		return c.Owner == d.Owner && c.A == d.A && c.B == d.B && slices.Equal(c.Vals, d.Vals) && slices.Equal(c.Kids, d.Kids)
	})
	if !same || !slices.Equal(now.refs, was.refs) {
		t.Fatal("the cells of the arena are others than before")
	}
}

// tight makes one change of a map of the first n keys in an arena with so much room, and returns its error.
func tight(t *testing.T, c change, w way, l []value.Value, n, left int) api.Errno {
	t.Helper()
	most := 12*n + 25
	x := land(t, most)
	m, was := build(t, x, l[:n], w.maker), numbered(l[:n])
	for range w.kept {
		x.Keep(m.Root)
	}
	filled := fill(t, x, left)
	before := look(x, most)
	got, e := c.do(x, m, w.editor)
	holds := w.kept
	switch e {
	case api.OK:
		has(t, x, got, c.want, l...)
		drop(x, got)
		if w.editor == 0 {
			holds++
		}
	default:
		fails(t, api.ErrFull)(got, e)
		unchanged(t, x, before)
		holds++
	}
	for range holds {
		has(t, x, m, was, l...)
		drop(x, m)
	}
	for _, i := range filled {
		x.Drop(i)
	}
	none(t, x)
	return e
}

// P8.1: every room from 0 to 20 ahead of a change: room for 20 cells is enough, and
// so is more than what was enough; with an error nothing changes, and the map remains.
func TestRoom(t *testing.T) {
	for _, f := range families() {
		t.Run(f.name, func(t *testing.T) {
			t.Parallel()
			l := f.make(t, 20)
			for _, w := range ways() {
				for _, n := range []int{0, 1, 2, 3, 14} {
					for _, c := range changes(l[:n+2], n) {
						eachRoom(t, c, w, l[:n+2], n)
					}
				}
			}
		})
	}
}

// eachRoom makes one change of a map of the first n keys in arenas with room for 0 to 20 cells.
func eachRoom(t *testing.T, c change, w way, l []value.Value, n int) {
	t.Helper()
	enough := false
	for left := range 21 {
		e := tight(t, c, w, l, n, left)
		if e != api.OK && (enough || left == 20) {
			t.Fatalf("%s %s, of %d keys, with room for %d cells returns %d", c.name, w.name, n, left, e)
		}
		enough = e == api.OK
	}
}

// P8.1: room for the cells that a change makes is enough for it, and less is not.
func TestEnoughRoom(t *testing.T) {
	for _, f := range families() {
		l := f.make(t, 44)
		for _, n := range []int{0, 1, 2, 3, 14, 40} {
			for _, c := range changes(l[:n+4], n) {
				x := land(t, 12*n+60)
				m := build(t, x, l[:n], 5)
				live := x.Live()
				got, _ := c.do(x, m, 0)
				need := x.Live() - live
				drop(x, got)
				filled := fill(t, x, max(need-1, 0))
				if need > 0 {
					fails(t, api.ErrFull)(c.do(x, m, 0))
					x.Drop(filled[0])
				}
				if got, e := c.do(x, m, 0); e != api.OK {
					t.Errorf("%s of %d keys makes %d cells, and returns %v, %d with room for %d", c.name, n, need, got, e, x.Room())
				}
			}
		}
	}
}

// P8.1: in the smallest arenas maps are made until there is no more room, and then taken apart.
func TestSmallArenas(t *testing.T) {
	for _, f := range families() {
		l := f.make(t, 60)
		for _, owner := range []uint32{0, 5} {
			for most := 1; most < 60; most++ {
				x := land(t, most)
				m, want := hamt.Map{}, content{}
				for i, k := range l {
					before := look(x, most)
					room := x.Room()
					next, e := x.Put(m, k, value.Number(int64(i)), owner)
					if e != api.OK {
						fails(t, api.ErrFull)(next, e)
						if room >= 20 {
							t.Fatalf("%s: there is room for %d cells, and Put returns %d", f.name, room, e)
						}
						unchanged(t, x, before)
						continue
					}
					m = then(t, x, m, owner)(next, e)
					want[k] = value.Number(int64(i))
				}
				has(t, x, m, want, l...)
				if len(want) == 0 {
					t.Fatalf("%s: there is room for %d cells, and no key can be put", f.name, most)
				}
				drop(x, m)
				none(t, x)
			}
		}
	}
}

// P8.1: a map that remains after an error is changed once there is room.
func TestRoomAgain(t *testing.T) {
	for _, f := range families() {
		l := f.make(t, 50)
		for _, n := range []int{0, 1, 2, 3, 13, 14, 40} {
			for _, owner := range []uint32{0, 5, 6} {
				for _, c := range changes(l[:n+4], n) {
					x := land(t, 12*n+30)
					m := build(t, x, l[:n], 5)
					filled := fill(t, x, 0)
					got, e := c.do(x, m, owner)
					if e == api.ErrFull {
						for _, i := range filled[:20] {
							x.Drop(i)
						}
						filled = filled[20:]
						got, e = c.do(x, m, owner)
					}
					if e != api.OK {
						t.Fatalf("%s of %d keys returns %d", c.name, n, e)
					}
					has(t, x, got, c.want, l...)
					drop(x, got)
					if owner == 0 {
						has(t, x, m, numbered(l[:n]), l...)
						drop(x, m)
					}
					for _, i := range filled {
						x.Drop(i)
					}
					none(t, x)
				}
			}
		}
	}
}

// Rule 1: the error that the chapter names first is returned where there is no room either.
func TestErrorsBeforeRoom(t *testing.T) {
	for _, f := range families() {
		l := f.make(t, 1025)
		x := land(t, 14000)
		m := build(t, x, l[:1024], 5)
		fill(t, x, 0)
		was := look(x, 14000)
		for _, owner := range []uint32{0, 5, 6} {
			fails(t, api.ErrLong)(x.Put(m, l[1024], value.Number(1), owner))
			fails(t, api.ErrNone)(x.Take(m, l[1024], owner))
			fails(t, api.ErrNone)(x.Take(hamt.Map{}, l[0], owner))
			fails(t, api.ErrFull)(x.Put(hamt.Map{}, l[0], value.Number(1), owner))
		}
		fails(t, api.ErrFull)(x.Put(m, l[0], value.Number(1), 0))
		fails(t, api.ErrFull)(x.Put(m, l[1023], value.Number(1), 6))
		unchanged(t, x, was)
	}
}
