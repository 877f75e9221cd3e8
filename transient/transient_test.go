package transient_test

import (
	"slices"
	"testing"

	"easement/api"
	"easement/hamt"
	"easement/object"
	"easement/transient"
	"easement/value"
)

// push is an operation that appends a number to a vector.
func push(n int64) object.Op { return object.Op{Code: object.Push, Val: value.Number(n)} }

// put is an operation that puts a number for a key.
func put(k, n int64) object.Op {
	return object.Op{Code: object.Put, Key: value.Number(k), Val: value.Number(n)}
}

// numbered checks the number that a call returned, and that it has no error.
func numbered(t *testing.T, want int) func(int, api.Errno) {
	return func(id int, e api.Errno) {
		t.Helper()
		if id != want || e != api.OK {
			t.Fatalf("the call returns %d, %d; want the number %d", id, e, want)
		}
	}
}

// fails checks that a call returned an error, and no number.
func fails(t *testing.T, want api.Errno) func(int, api.Errno) {
	return func(id int, e api.Errno) {
		t.Helper()
		if id != 0 || e != want {
			t.Fatalf("the call returns %d, %d; want 0, %d", id, e, want)
		}
	}
}

// is checks an error.
func is(t *testing.T, e, want api.Errno) {
	t.Helper()
	if e != want {
		t.Fatalf("the call returns %d, want %d", e, want)
	}
}

// lists checks what Tells returned.
func lists(t *testing.T, want ...value.Value) func([]value.Value, api.Errno) {
	return func(got []value.Value, e api.Errno) {
		t.Helper()
		if !slices.Equal(got, want) || e != api.OK {
			t.Fatalf("Tells returns %v, %d; want %v", got, e, want)
		}
	}
}

// none checks that Tells returned an error, and no list.
func none(t *testing.T, want api.Errno) func([]value.Value, api.Errno) {
	return func(got []value.Value, e api.Errno) {
		t.Helper()
		if got != nil || e != want {
			t.Fatalf("Tells returns %v, %d; want %d", got, e, want)
		}
	}
}

// tells checks what Of returns.
func tells(t *testing.T, x *transient.Table, id int, want told) {
	t.Helper()
	k, n, thawed, ok := x.Of(id)
	if got := (told{k, n, thawed, ok}); got != want {
		t.Fatalf("Of(%d) returns %v, want %v", id, got, want)
	}
}

// The example of the chapter, and that of the whole.
func TestExample(t *testing.T) {
	x := newTwin(t, 20)
	numbered(t, 1)(x.Make(object.Map))
	numbered(t, 2)(x.Thaw(1))
	is(t, x.Change(1, put(1, 2)), api.ErrFrozen)
}

// P14.1: New of a land with both parts, and of lands that lack one or both.
func TestNew(t *testing.T) {
	x := land(t, 20)
	for range 2 {
		made, e := transient.New(x)
		if made == nil || e != api.OK || made.Land != x {
			t.Fatalf("New returns %v, %d", made, e)
		}
		if made.Count() != 0 {
			t.Errorf("a new table has %d objects", made.Count())
		}
		for _, id := range []int{-1, 0, 1, 2} {
			tells(t, made, id, told{})
		}
		numbered(t, 1)(made.Make(object.Set))
	}
	for _, lacks := range []hamt.Land{{Arena: x.Arena}, {Hasher: x.Hasher}, {}} {
		if made, e := transient.New(lacks); made != nil || e != api.ErrArg {
			t.Errorf("New of a land that lacks a part returns %v, %d", made, e)
		}
	}
	if x.Live() != 0 {
		t.Errorf("%d cells are live", x.Live())
	}
}

// P14.1: Make of each kind, and of kinds that there are not, which use no number.
func TestMake(t *testing.T) {
	w := newTwin(t, 1)
	for k := range 256 {
		if k < 1 || k > 4 {
			fails(t, api.ErrArg)(w.Make(object.Kind(k)))
			continue
		}
		numbered(t, 2*k-1)(w.Make(object.Kind(k)))
		fails(t, api.ErrArg)(w.Make(0))
		fails(t, api.ErrArg)(w.Make(5))
		numbered(t, 2*k)(w.Make(object.Kind(k)))
		tells(t, w.Table, 2*k-1, told{object.Kind(k), 0, false, true})
		tells(t, w.Table, 2*k, told{object.Kind(k), 0, false, true})
	}
	if w.Count() != 8 || w.Live() != 0 {
		t.Errorf("there are %d objects, and %d cells", w.Count(), w.Live())
	}
}

// P14.1: numbers follow each other, whichever call assigns them, and whatever is released or refused between.
func TestNumbersFollow(t *testing.T) {
	x := newTwin(t, 100).Table
	numbered(t, 1)(x.Make(object.Vector))
	numbered(t, 2)(x.Derive(1, push(1)))
	numbered(t, 3)(x.Thaw(2))
	numbered(t, 4)(x.Make(object.Map))
	is(t, x.Release(4), api.OK)
	numbered(t, 5)(x.Thaw(1))
	is(t, x.Release(5), api.OK)
	is(t, x.Release(5), api.ErrNone)
	numbered(t, 6)(x.Derive(1, push(2)))
	fails(t, api.ErrArg)(x.Make(9))
	fails(t, api.ErrNone)(x.Derive(4, push(2)))
	fails(t, api.ErrState)(x.Derive(3, push(2)))
	fails(t, api.ErrKind)(x.Derive(2, object.Op{Code: object.Take}))
	fails(t, api.ErrArg)(x.Derive(2, object.Op{Code: object.Count}))
	fails(t, api.ErrNone)(x.Thaw(7))
	fails(t, api.ErrState)(x.Thaw(3))
	is(t, x.Change(1, push(1)), api.ErrFrozen)
	is(t, x.Freeze(1), api.ErrFrozen)
	is(t, x.Freeze(3), api.OK)
	numbered(t, 7)(x.Thaw(3))
	is(t, x.Change(7, push(3)), api.OK)
	for _, id := range []int{1, 2, 3, 6, 7} {
		is(t, x.Release(id), api.OK)
	}
	if x.Count() != 0 || x.Live() != 0 {
		t.Errorf("there are %d objects, and %d cells", x.Count(), x.Live())
	}
	numbered(t, 8)(x.Make(object.Sorted))
	tells(t, x, 7, told{})
	tells(t, x, 8, told{object.Sorted, 0, false, true})
}

// P14.1: every function with a number that no object has, or has any more.
func TestNoSuchObject(t *testing.T) {
	for _, k := range kinds() {
		w := newTwin(t, 100)
		kept, gone := changed(w, k, 3), frozen(w, k, 3)
		w.thaw(gone)
		w.release(gone)
		moved := changed(w, k, 3)
		w.release(moved)
		w.freeze(kept)
		count := w.Count()
		for _, id := range w.numbers() {
			if _, ok := w.must.objects[id]; ok {
				continue
			}
			was := cells(w.Land)
			for _, op := range append(done(k, 3), reading(3)...) {
				none(t, api.ErrNone)(w.Tells(id, op))
				fails(t, api.ErrNone)(w.Derive(id, op))
				is(t, w.Change(id, op), api.ErrNone)
			}
			fails(t, api.ErrNone)(w.Thaw(id))
			is(t, w.Freeze(id), api.ErrNone)
			is(t, w.Release(id), api.ErrNone)
			tells(t, w.Table, id, told{})
			unchanged(t, w.Land, was)
		}
		if w.Count() != count {
			t.Errorf("Count is %d, was %d", w.Count(), count)
		}
		w.same()
		numbered(t, w.must.last+1)(w.Thaw(kept))
		is(t, w.Release(w.must.last+1), api.OK)
		w.end()
	}
}

// P14.1: Tells of a version and of a transient, edge by edge.
func TestTellsOfThree(t *testing.T) {
	a, b, c := value.Number(10), value.Number(20), value.Number(30)
	x := newTwin(t, 100).Table
	numbered(t, 1)(x.Make(object.Vector))
	numbered(t, 2)(x.Make(object.Sorted))
	numbered(t, 3)(x.Thaw(1))
	numbered(t, 4)(x.Thaw(2))
	for i := range int64(3) {
		is(t, x.Change(3, push(10*i+10)), api.OK)
		is(t, x.Change(4, put(3-i, 30-10*i)), api.OK)
	}
	check := func() {
		t.Helper()
		lists(t, value.Number(3))(x.Tells(3, object.Op{Code: object.Count}))
		lists(t, b)(x.Tells(3, object.Op{Code: object.Get, Key: value.Number(1)}))
		none(t, api.ErrRange)(x.Tells(3, object.Op{Code: object.Get, Key: value.Number(3)}))
		none(t, api.ErrKind)(x.Tells(3, object.Op{Code: object.Has}))
		lists(t, b, c)(x.Tells(3, object.Op{Code: object.Page, From: 1, N: 9}))
		none(t, api.ErrArg)(x.Tells(3, push(1)))
		lists(t, value.Number(3))(x.Tells(4, object.Op{Code: object.Count}))
		lists(t, c)(x.Tells(4, object.Op{Code: object.Get, Key: value.Number(3)}))
		none(t, api.ErrNone)(x.Tells(4, object.Op{Code: object.Get, Key: value.Number(4)}))
		lists(t, value.Truth(true))(x.Tells(4, object.Op{Code: object.Has, Key: value.Number(1)}))
		lists(t, value.Number(1), a, value.Number(2), b)(x.Tells(4, object.Op{Code: object.Page, N: 2}))
		lists(t, value.Number(3), c)(x.Tells(4, object.Op{Code: object.Floor, Key: value.Text("")}))
		lists(t, value.Number(1), a)(x.Tells(4, object.Op{Code: object.Ceil}))
		none(t, api.ErrArg)(x.Tells(4, put(1, 1)))
		lists(t, value.Number(0))(x.Tells(1, object.Op{Code: object.Count}))
		lists(t)(x.Tells(2, object.Op{Code: object.Page, N: 64}))
	}
	check()
	is(t, x.Freeze(3), api.OK)
	check()
	is(t, x.Freeze(4), api.OK)
	check()
}

// P14.1: Tells is Read of layer 13, of versions and of transients of each kind, with
// each code, and with each edge of its arguments; it changes nothing.
func TestTells(t *testing.T) {
	each(t, all(), func(w *twin, id int) {
		was := cells(w.Land)
		n := w.must.objects[id].len()
		for _, op := range reading(n) {
			w.tells(id, op)
			w.tells(id, op)
		}
		for _, op := range done(w.must.objects[id].kind, n) {
			none(w.T, api.ErrArg)(w.Tells(id, op))
		}
		unchanged(w.T, w.Land, was)
	}, 0, 1, 2, 3, 33, 65, 130)
}

// P14.1: Of of versions and of transients of each kind, and behind each call that changes what it tells.
func TestOf(t *testing.T) {
	for _, k := range kinds() {
		w := newTwin(t, 100)
		v := w.make(k)
		tells(t, w.Table, v, told{k, 0, false, true})
		m := w.thaw(v)
		tells(t, w.Table, v, told{k, 0, false, true})
		tells(t, w.Table, m, told{k, 0, true, true})
		for i, op := range filling(k, 3) {
			w.change(m, op)
			tells(t, w.Table, m, told{k, i + 1, true, true})
		}
		tells(t, w.Table, v, told{k, 0, false, true})
		w.freeze(m)
		tells(t, w.Table, m, told{k, 3, false, true})
		d := w.derive(m, done(k, 3)[0])
		tells(t, w.Table, d, told{k, 4, false, true})
		tells(t, w.Table, m, told{k, 3, false, true})
		w.release(d)
		tells(t, w.Table, d, told{})
		w.end()
		tells(t, w.Table, m, told{})
	}
}

// P14.1: Count of an empty table, and behind each call.
func TestCount(t *testing.T) {
	x := newTwin(t, 100).Table
	count := func(want int) {
		t.Helper()
		for range 2 {
			if x.Count() != want {
				t.Fatalf("Count is %d, want %d", x.Count(), want)
			}
		}
	}
	count(0)
	numbered(t, 1)(x.Make(object.Vector))
	count(1)
	fails(t, api.ErrArg)(x.Make(0))
	count(1)
	numbered(t, 2)(x.Derive(1, push(1)))
	count(2)
	fails(t, api.ErrKind)(x.Derive(1, object.Op{Code: object.Take}))
	count(2)
	numbered(t, 3)(x.Thaw(2))
	count(3)
	fails(t, api.ErrState)(x.Thaw(3))
	fails(t, api.ErrNone)(x.Thaw(4))
	count(3)
	is(t, x.Change(3, push(1)), api.OK)
	is(t, x.Freeze(3), api.OK)
	x.Tells(3, object.Op{Code: object.Count})
	x.Of(3)
	count(3)
	is(t, x.Release(1), api.OK)
	count(2)
	is(t, x.Release(1), api.ErrNone)
	is(t, x.Release(4), api.ErrNone)
	count(2)
	is(t, x.Release(3), api.OK)
	count(1)
	is(t, x.Release(2), api.OK)
	count(0)
	numbered(t, 4)(x.Make(object.Map))
	count(1)
}

// P14.2: every call of a nil table, whatever its arguments are.
func TestNilTable(t *testing.T) {
	var x *transient.Table
	for k := range object.Kind(7) {
		fails(t, api.ErrArg)(x.Make(k))
	}
	for _, id := range []int{-1 << 63, -1, 0, 1, 2, 1<<63 - 1} {
		for _, op := range append(reading(3), push(1), put(1, 2)) {
			none(t, api.ErrArg)(x.Tells(id, op))
			fails(t, api.ErrArg)(x.Derive(id, op))
			is(t, x.Change(id, op), api.ErrArg)
		}
		fails(t, api.ErrArg)(x.Thaw(id))
		is(t, x.Freeze(id), api.ErrArg)
		is(t, x.Release(id), api.ErrArg)
		tells(t, x, id, told{})
	}
	if x.Count() != 0 {
		t.Errorf("Count of a nil table is %d", x.Count())
	}
}
