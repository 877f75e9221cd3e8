package transient_test

import (
	"fmt"
	"reflect"
	"slices"
	"testing"

	"easement/api"
	"easement/arena"
	"easement/hamt"
	"easement/hash"
	"easement/object"
	"easement/transient"
	"easement/value"
)

// land is a land with room for so many cells.
func land(t *testing.T, most int) hamt.Land {
	t.Helper()
	a, e := arena.New(most)
	if e != api.OK {
		t.Fatalf("New(%d) returns %d", most, e)
	}
	return hamt.Land{Arena: a, Hasher: hash.New(7)}
}

// kinds are all that there are.
func kinds() []object.Kind {
	return []object.Kind{object.Vector, object.Map, object.Set, object.Sorted}
}

// twin is a table, with what it must have. Each of its calls is held against that.
type twin struct {
	*testing.T
	*transient.Table
	must *table
	full int // how often there was not enough room
}

// newTwin is an empty table on a land of its own, with room for so many cells.
func newTwin(t *testing.T, most int) *twin {
	t.Helper()
	return twinOn(t, land(t, most))
}

// twinOn is an empty table on a land.
func twinOn(t *testing.T, x hamt.Land) *twin {
	t.Helper()
	made, e := transient.New(x)
	if made == nil || e != api.OK {
		t.Fatalf("New returns %v, %d", made, e)
	}
	return &twin{T: t, Table: made, must: &table{x: x, objects: map[int]plain{}}}
}

// cell is what an arena has under a number.
type cell struct {
	is   arena.Cell
	ok   bool
	refs int
}

// cells is what an arena has under each number.
func cells(x hamt.Land) []cell {
	var l []cell
	for i := range x.Live() + x.Room() + 1 {
		c, ok := x.Get(i)
		l = append(l, cell{c, ok, x.Refs(i)})
	}
	return l
}

// unchanged checks that an arena has what it had.
func unchanged(t *testing.T, x hamt.Land, was []cell) {
	t.Helper()
	if !reflect.DeepEqual(cells(x), was) {
		t.Fatal("the cells of the arena are others than before")
	}
}

// brief is the beginning of what is printed of a thing, which may have great texts.
func brief(x any) string { return fmt.Sprintf("%.300s", fmt.Sprint(x)) }

// told is what Of returns.
type told struct {
	kind   object.Kind
	n      int
	thawed bool
	there  bool
}

// tell is what Of of a number must return.
func (p *table) tell(id int) told {
	o, ok := p.objects[id]
	return told{kind: o.kind, n: o.len(), thawed: o.thawed, there: ok}
}

// tell is what Of of a number returns.
func (w *twin) tell(id int) told {
	k, n, thawed, ok := w.Of(id)
	return told{kind: k, n: n, thawed: thawed, there: ok}
}

// numbers are those of all objects that there are, and were, and some others.
func (w *twin) numbers() []int {
	l := []int{-1 << 63, -1 << 32, -1, 0, w.must.last + 1, w.must.last + 2, 1 << 32, 1<<32 + 1, 1<<63 - 1}
	for id := range w.must.last {
		l = append(l, id+1)
	}
	return l
}

// has checks that an object has what it must.
func (w *twin) has(id int) {
	w.Helper()
	p := w.must.objects[id]
	if got := w.tell(id); got != w.must.tell(id) {
		w.Fatalf("Of(%d) returns %v, want %v", id, got, w.must.tell(id))
	}
	var got []value.Value
	for from := 0; from <= p.len(); from += 64 {
		l, e := w.Tells(id, object.Op{Code: object.Page, From: from, N: 64})
		if e != api.OK {
			w.Fatalf("the page from %d of object %d is %d", from, id, e)
		}
		got = append(got, l...)
	}
	if want := slices.Concat(p.entries(w.must.x)...); !slices.Equal(got, want) {
		w.Fatalf("object %d, of the kind %d, has %s, want %s", id, p.kind, brief(got), brief(want))
	}
}

// same checks that all objects have what they must, and that there are no others.
func (w *twin) same() {
	w.Helper()
	if w.Count() != len(w.must.objects) {
		w.Fatalf("Count is %d, want %d", w.Count(), len(w.must.objects))
	}
	for _, id := range w.numbers() {
		if _, ok := w.must.objects[id]; ok {
			w.has(id)
		} else if got := w.tell(id); got != (told{}) {
			w.Fatalf("Of(%d) returns %v, but there is no such object", id, got)
		}
	}
}

// passes tells whether a call must have changed something. One that must fail, or
// may as there is little room, must have returned its error, and changed nothing.
func (w *twin) passes(call string, was []cell, e, fault api.Errno, plenty int) bool {
	w.Helper()
	if e == api.ErrFull && fault == api.OK && w.Room() < plenty {
		w.full++
		fault = api.ErrFull
	}
	if e != fault {
		w.Fatalf("%s returns %d, want %d", call, e, fault)
	}
	if e == api.OK {
		return true
	}
	unchanged(w.T, w.Land, was)
	return false
}

// before is what the arena has ahead of a call that fails, or may.
func (w *twin) before(fault api.Errno, plenty int) []cell {
	if fault == api.OK && w.Room() >= plenty {
		return nil
	}
	return cells(w.Land)
}

// added checks the number that a call returned: that of the object, or 0.
func (w *twin) added(call string, id int, ok bool, o plain) int {
	w.Helper()
	want := 0
	if ok {
		want = w.must.add(o)
	}
	if id != want {
		w.Fatalf("%s returns the number %d, want %d", call, id, want)
	}
	return id
}

// make makes an object.
func (w *twin) make(k object.Kind) int {
	w.Helper()
	id, e := w.Make(k)
	return w.added("Make", id, w.passes("Make", nil, e, api.OK, 0), empty(k))
}

// tells reads an object.
func (w *twin) tells(id int, op object.Op) {
	w.Helper()
	want, fault := w.must.tells(id, op)
	got, e := w.Tells(id, op)
	if e != fault || !slices.Equal(got, want) || e != api.OK && got != nil {
		w.Fatalf("Tells of %d with %s returns %s, %d; want %s, %d", id, brief(op), brief(got), e, brief(want), fault)
	}
}

// derive derives a version.
func (w *twin) derive(id int, op object.Op) int {
	w.Helper()
	call := fmt.Sprintf("Derive of %d with %s", id, brief(op))
	plenty := w.must.objects[id].plenty()
	want, fault := w.must.derived(id, op)
	was := w.before(fault, plenty)
	got, e := w.Derive(id, op)
	return w.added(call, got, w.passes(call, was, e, fault, plenty), want.as(false))
}

// thaw adds a transient. It needs no room.
func (w *twin) thaw(id int) int {
	w.Helper()
	call := fmt.Sprintf("Thaw of %d", id)
	want, fault := w.must.thawable(id)
	was := w.before(fault, 0)
	got, e := w.Thaw(id)
	return w.added(call, got, w.passes(call, was, e, fault, 0), want.as(true))
}

// change changes a transient.
func (w *twin) change(id int, op object.Op) {
	w.Helper()
	plenty := w.must.objects[id].plenty()
	want, fault := w.must.changed(id, op)
	was := w.before(fault, plenty)
	e := w.Change(id, op)
	if w.passes(fmt.Sprintf("Change of %d with %s", id, brief(op)), was, e, fault, plenty) {
		w.must.objects[id] = want
	}
}

// freeze makes a transient a version.
func (w *twin) freeze(id int) {
	w.Helper()
	want, fault := w.must.freezable(id)
	was := w.before(fault, 0)
	if w.passes(fmt.Sprintf("Freeze of %d", id), was, w.Freeze(id), fault, 0) {
		w.must.objects[id] = want.as(false)
	}
}

// release removes an object.
func (w *twin) release(id int) {
	w.Helper()
	fault := api.OK
	if _, ok := w.must.objects[id]; !ok {
		fault = api.ErrNone
	}
	was := w.before(fault, 0)
	if w.passes(fmt.Sprintf("Release of %d", id), was, w.Release(id), fault, 0) {
		delete(w.must.objects, id)
	}
}

// end releases all objects; then no cell may be live.
func (w *twin) end() {
	w.Helper()
	w.same()
	for id := range w.must.last {
		if _, ok := w.must.objects[id+1]; ok {
			w.release(id + 1)
		}
	}
	w.same()
	if w.Live() != 0 {
		w.Fatalf("%d cells are live behind the last Release", w.Live())
	}
}

// fill makes cells until there is so much room, and returns their numbers.
func fill(t *testing.T, x hamt.Land, left int) []int {
	t.Helper()
	var l []int
	for x.Room() > left {
		i, e := x.Make(arena.Cell{})
		if e != api.OK {
			t.Fatal(e)
		}
		l = append(l, i)
	}
	return l
}

// drop drops the cells that fill made.
func drop(x hamt.Land, l []int) {
	for _, i := range l {
		x.Drop(i)
	}
}

// derived is a version that was derived step by step.
func derived(w *twin, k object.Kind, n int) int {
	w.Helper()
	id := w.make(k)
	for _, op := range filling(k, n) {
		next := w.derive(id, op)
		w.release(id)
		id = next
	}
	return id
}

// changed is a transient that was changed step by step.
func changed(w *twin, k object.Kind, n int) int {
	w.Helper()
	first := w.make(k)
	id := w.thaw(first)
	w.release(first)
	for _, op := range filling(k, n) {
		w.change(id, op)
	}
	return id
}

// frozen is a version that was a transient.
func frozen(w *twin, k object.Kind, n int) int {
	w.Helper()
	id := changed(w, k, n)
	w.freeze(id)
	return id
}

// thawed is a transient beside the version that it was thawed from, and another one.
func thawed(w *twin, k object.Kind, n int) int {
	w.Helper()
	id := frozen(w, k, n)
	w.thaw(id)
	return w.thaw(id)
}

// left is a transient that was thawed from a version, which is released.
func left(w *twin, k object.Kind, n int) int {
	w.Helper()
	first := derived(w, k, n)
	id := w.thaw(first)
	w.release(first)
	return id
}

// way is a way to make an object of n values or keys.
type way func(w *twin, k object.Kind, n int) int

func versions() []way   { return []way{derived, frozen} }
func transients() []way { return []way{changed, thawed, left} }
func all() []way        { return append(versions(), transients()...) }

// each calls a test with an object of each kind and of each of these lengths, made
// in each of these ways. Behind the last Release no cell may be live.
func each(t *testing.T, ways []way, do func(w *twin, id int), lengths ...int) {
	t.Parallel()
	for _, k := range kinds() {
		for _, n := range lengths {
			for i, build := range ways {
				t.Run(fmt.Sprintf("kind %d of %d, way %d", k, n, i), func(t *testing.T) {
					t.Parallel()
					w := newTwin(t, 6*n+60)
					id := build(w, k, n)
					w.same()
					do(w, id)
					w.end()
				})
			}
		}
	}
}
