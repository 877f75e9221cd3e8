package object_test

import (
	"fmt"
	"testing"

	"easement/api"
	"easement/hamt"
	"easement/object"
	"easement/value"
)

// plenty is room that is always enough for a change, as the layers of the kinds say.
func plenty(p plain) int {
	return map[object.Kind]int{1: 8, 2: 20, 3: 20, 4: p.len() + 3}[p.kind]
}

// tight makes one change of an object in an arena with so much room, and returns its error.
func tight(t *testing.T, p plain, op object.Op, w way, left int) api.Errno {
	t.Helper()
	x := land(t, 4*p.len()+40)
	o := build(t, x, p, w.maker)
	for range w.kept {
		object.Keep(x, o)
	}
	cells := fill(t, x, left)
	was := look(x)
	made, e := object.Write(x, o, op, w.editor)
	remain := w.kept
	if e == api.OK {
		has(t, x, made, after(t, p, op))
		object.Drop(x, made)
		if w.editor == 0 {
			remain++
		}
	} else {
		fails(t, api.ErrFull)(made, e)
		unchanged(t, x, was)
		remain++
	}
	for range remain {
		has(t, x, o, p)
		object.Drop(x, o)
	}
	for _, i := range cells {
		x.Drop(i)
	}
	none(t, x)
	return e
}

// P13.3: every little room ahead of a change: where there is not enough, ErrFull, and
// nothing has changed; more than what was enough is enough, as is what the layers say.
func TestRoom(t *testing.T) {
	t.Parallel()
	for _, k := range kinds() {
		t.Run(fmt.Sprintf("kind %d", k), func(t *testing.T) {
			t.Parallel()
			full := 0
			for _, n := range []int{0, 1, 2, 14, 32, 33, 65} {
				p := filled(k, n)
				for _, op := range changes(p) {
					for _, w := range ways() {
						full += eachRoom(t, p, op, w)
					}
				}
			}
			if full == 0 {
				t.Error("there was always room enough")
			}
		})
	}
}

// eachRoom makes one change of an object in arenas with little room, and in one with
// plenty, and returns how often there was not enough.
func eachRoom(t *testing.T, p plain, op object.Op, w way) int {
	t.Helper()
	full := 0
	most := plenty(p)
	for left := range most + 1 {
		if left > 9 && left < most {
			continue
		}
		e := tight(t, p, op, w, left)
		if e != api.OK && (full < left || left == most) {
			t.Fatalf("Write %s, of the kind %d with %v, returns %d with room for %d cells", w.name, p.kind, op, e, left)
		}
		if e != api.OK {
			full++
		}
	}
	return full
}

// Rule 1: the error that the chapter names first is returned where there is no room either.
func TestErrorsBeforeRoom(t *testing.T) {
	each(t, func(t *testing.T, x hamt.Land, o object.Object, p plain) {
		cells := fill(t, x, 0)
		for _, k := range append(sought(p.len()), value.Number(int64(p.len()))) {
			for c := range 21 {
				op := object.Op{Code: object.Code(c), Key: k, Val: value.Text("x")}
				if _, e := p.write(op); e != api.OK {
					refuses(t, x, o, op, e)
				}
			}
		}
		for _, i := range cells {
			x.Drop(i)
		}
	}, 0, 1, 33, 65)
}

// P13.3: the owner is the one that the layer of the kind is told: without room, a change
// without an owner is ErrFull, and one with the owner of all cells is made in place.
func TestOwnerNeedsNoRoom(t *testing.T) {
	t.Parallel()
	for _, k := range kinds() {
		for _, n := range []int{1, 2, 14, 33, 70, 300} {
			x, p := land(t, 2000), filled(k, n)
			o := build(t, x, p, 5)
			fill(t, x, 0)
			step := func(op object.Op) {
				t.Helper()
				made, e := object.Write(x, o, op, 5)
				if e != api.OK {
					t.Fatalf("Write of the kind %d with %v returns %d", k, op, e)
				}
				o, p = made, after(t, p, op)
				has(t, x, o, p)
			}
			put := object.Op{Code: object.Put, Key: ordinary(n)[n/2], Val: value.Text("x")}
			if k == object.Vector {
				put.Key = value.Number(int64(n / 2))
			}
			was := look(x)
			fails(t, api.ErrFull)(object.Write(x, o, put, 0))
			fails(t, api.ErrFull)(object.Write(x, o, put, 6))
			unchanged(t, x, was)
			step(put)
			for _, v := range ordinary(n) {
				if k == object.Vector {
					step(object.Op{Code: object.Pop})
				} else {
					step(object.Op{Code: object.Take, Key: v})
				}
			}
			if o != (object.Object{Kind: k}) {
				t.Errorf("the empty object is %v", o)
			}
		}
	}
}

// P13.3: an object that remains after an error is changed once there is room.
func TestRoomAgain(t *testing.T) {
	t.Parallel()
	for _, k := range kinds() {
		for _, n := range []int{0, 1, 2, 33, 65} {
			p := filled(k, n)
			for _, op := range changes(p) {
				for _, owner := range owners() {
					x := land(t, 600)
					o := build(t, x, p, 5)
					cells := fill(t, x, 0)
					made, e := object.Write(x, o, op, owner)
					if e == api.ErrFull {
						for range plenty(p) {
							x.Drop(cells[0])
							cells = cells[1:]
						}
						made, e = object.Write(x, o, op, owner)
					}
					if e != api.OK {
						t.Fatalf("Write of the kind %d with %v returns %d", k, op, e)
					}
					has(t, x, made, after(t, p, op))
					object.Drop(x, made)
					if owner == 0 {
						has(t, x, o, p)
						object.Drop(x, o)
					}
					for _, i := range cells {
						x.Drop(i)
					}
					none(t, x)
				}
			}
		}
	}
}
