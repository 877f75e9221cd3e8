package pvec_test

import (
	"testing"

	"easement/api"
	"easement/arena"
	"easement/pvec"
	"easement/value"
)

// fill makes cells until there is so much room, and returns their numbers.
func fill(t *testing.T, a *arena.Arena, left int) []int {
	t.Helper()
	var l []int
	for a.Room() > left {
		i, e := a.Make(arena.Cell{Owner: 5, A: 7})
		if e != api.OK {
			t.Fatal(e)
		}
		l = append(l, i)
	}
	return l
}

// tight makes one change of a vector in an arena with so much room, and returns its error.
func tight(t *testing.T, c change, w way, l []value.Value, left int) api.Errno {
	t.Helper()
	const most = 120
	a := room(t, most)
	v := build(t, a, l, w.maker)
	for range w.kept {
		pvec.Keep(a, v)
	}
	filled := fill(t, a, left)
	was := look(a, most)
	got, e := c.do(a, v, w.editor)
	holds := w.kept
	switch e {
	case api.OK:
		has(t, a, got, c.want)
		pvec.Drop(a, got)
		if w.editor == 0 {
			holds++
		}
	default:
		fails(t, api.ErrFull)(got, e)
		unchanged(t, a, was)
		holds++
	}
	for range holds {
		has(t, a, v, l)
		pvec.Drop(a, v)
	}
	for _, i := range filled {
		a.Drop(i)
	}
	none(t, a)
	return e
}

// P6.2: every room from 0 to 8 ahead of a change: room for 8 cells is enough, and
// so is more than what was enough; with an error nothing changes, and the vector remains.
func TestRoom(t *testing.T) {
	for _, w := range ways() {
		t.Run(w.name, func(t *testing.T) {
			t.Parallel()
			for _, n := range someLengths() {
				l := numbers(1, n)
				for _, c := range changes(l) {
					eachRoom(t, c, w, l)
				}
			}
		})
	}
}

// eachRoom makes one change of a vector in arenas with room for 0 to 8 cells.
func eachRoom(t *testing.T, c change, w way, l []value.Value) {
	t.Helper()
	enough := false
	for left := range 9 {
		e := tight(t, c, w, l, left)
		if e != api.OK && (enough || left == 8) {
			t.Fatalf("%s of %d values with room for %d cells returns %d", c.name, len(l), left, e)
		}
		enough = e == api.OK
	}
}

// P6.2: a vector that remains after an error is changed once there is room.
func TestRoomAgain(t *testing.T) {
	for _, n := range lengths() {
		l := numbers(1, n)
		for _, owner := range []uint32{0, 5, 6} {
			for _, c := range changes(l) {
				a := room(t, 120)
				v := build(t, a, l, 5)
				filled := fill(t, a, 0)
				got, e := c.do(a, v, owner)
				if e == api.ErrFull {
					for _, i := range filled[:8] {
						a.Drop(i)
					}
					filled = filled[8:]
					got, e = c.do(a, v, owner)
				}
				if e != api.OK {
					t.Fatalf("%s of %d values returns %d", c.name, n, e)
				}
				has(t, a, got, c.want)
				pvec.Drop(a, got)
				if owner == 0 {
					has(t, a, v, l)
					pvec.Drop(a, v)
				}
				for _, i := range filled {
					a.Drop(i)
				}
				none(t, a)
			}
		}
	}
}

// Rule 1: the error that the chapter names first is returned where there is no room either.
func TestErrorsBeforeRoom(t *testing.T) {
	for _, owner := range []uint32{0, 5, 6} {
		a := room(t, 100)
		v := build(t, a, numbers(1, 1024), 5)
		fill(t, a, 0)
		was := look(a, 100)
		fails(t, api.ErrLong)(pvec.Push(a, v, value.Number(1), owner))
		fails(t, api.ErrRange)(pvec.Set(a, v, 1024, value.Number(1), owner))
		fails(t, api.ErrRange)(pvec.Set(a, v, -1, value.Number(1), owner))
		fails(t, api.ErrRange)(pvec.Pop(a, pvec.Vec{}, owner))
		fails(t, api.ErrRange)(pvec.Set(a, pvec.Vec{}, 0, value.Number(1), owner))
		fails(t, api.ErrFull)(pvec.Push(a, pvec.Vec{}, value.Number(1), owner))
		unchanged(t, a, was)
	}
}

// No call panics, or fails to end, for what no call returned, or without an arena.
func TestStrangersDoNotPanic(t *testing.T) {
	l := []int{-1 << 63, -1, 0, 1, 2, 3, 31, 32, 33, 64, 65, 97, 1023, 1024, 1025, 1<<63 - 1}
	for _, n := range l {
		for root := -1; root < 6; root++ {
			for tail := -1; tail < 6; tail++ {
				for _, owner := range []uint32{0, 5} {
					strange(t, pvec.Vec{N: n, Root: root, Tail: tail}, l, owner)
				}
			}
		}
	}
}

// strange makes every call for a vector that no call returned, in arenas of a few cells, and in none.
func strange(t *testing.T, v pvec.Vec, places []int, owner uint32) {
	t.Helper()
	some := func() *arena.Arena {
		a := room(t, 12)
		leaf, _ := a.Make(arena.Cell{Owner: 5, Vals: numbers(1, 1)})
		more, _ := a.Make(arena.Cell{Owner: 5, Vals: numbers(1, 32)})
		a.Make(arena.Cell{Owner: 5, Vals: numbers(1, 2), Kids: []int{leaf, 0, more, more}})
		a.Make(arena.Cell{Owner: 5, Vals: numbers(1, 32), Kids: []int{0}})
		return a
	}
	for _, fresh := range []func() *arena.Arena{some, func() *arena.Arena { return nil }} {
		for _, i := range places {
			pvec.Get(fresh(), v, i)
			pvec.Set(fresh(), v, i, value.Number(1), owner)
		}
		pvec.Push(fresh(), v, value.Number(1), owner)
		pvec.Pop(fresh(), v, owner)
		pvec.Keep(fresh(), v)
		pvec.Drop(fresh(), v)
	}
}
