package transient_test

import (
	"testing"

	"easement/api"
	"easement/object"
	"easement/transient"
	"easement/value"
)

// The numbers of the objects that three makes, and the one that is assigned then.
const (
	vector = 13 + iota
	mapped
	set
	sorted
	fresh
)

// three is a table with an empty version of each kind, from 1 to 4, and one with
// three entries: 10, 20 and 30, or the keys 1, 2 and 3 with these values.
func three(t *testing.T) *transient.Table {
	t.Helper()
	x, e := transient.New(land(t, 400))
	is(t, e, api.OK)
	for i, k := range kinds() {
		numbered(t, i+1)(x.Make(k))
	}
	for i := 1; i <= 12; i++ {
		n := int64((i + 3) / 4)
		op := put(n, 10*n)
		if i%4 == 1 {
			op = push(10 * n)
		}
		numbered(t, i+4)(x.Derive(i, op))
	}
	return x
}

// list is the numbers as values.
func list(l ...int64) []value.Value {
	var out []value.Value
	for _, n := range l {
		out = append(out, value.Number(n))
	}
	return out
}

// take is an operation that takes a number as a key.
func take(k int64) object.Op { return object.Op{Code: object.Take, Key: value.Number(k)} }

// pop is an operation that takes the last value of a vector.
func pop() object.Op { return object.Op{Code: object.Pop} }

// step is an operation on an object, and what that has then, or the error.
type step struct {
	id   int
	op   object.Op
	want []value.Value
	e    api.Errno
}

// steps are some for each kind and each code. What maps and sets have behind them
// is one entry at most, so that the order of keys does not matter.
func steps() []step {
	l := []step{
		{vector, push(40), list(10, 20, 30, 40), 0},
		{vector, pop(), list(10, 20), 0},
		{vector, put(0, 5), list(5, 20, 30), 0},
		{vector, put(2, 5), list(10, 20, 5), 0},
		{vector, put(-1, 5), nil, api.ErrRange},
		{vector, put(3, 5), nil, api.ErrRange},
		{vector, put(1<<32, 5), nil, api.ErrRange},
		{vector, object.Op{Code: object.Put, Key: value.Text("0")}, nil, api.ErrKind},
		{vector, object.Op{Code: object.Put}, nil, api.ErrKind},
		{vector, take(0), nil, api.ErrKind},
		{1, push(40), list(40), 0},
		{1, pop(), nil, api.ErrRange},
		{1, put(0, 5), nil, api.ErrRange},
		{1, take(0), nil, api.ErrKind},
		{2, put(7, 8), list(7, 8), 0},
		{3, put(7, 8), list(7), 0},
		{4, put(7, 8), list(7, 8), 0},
		{sorted, put(0, 5), list(0, 5, 1, 10, 2, 20, 3, 30), 0},
		{sorted, put(2, 5), list(1, 10, 2, 5, 3, 30), 0},
		{sorted, take(2), list(1, 10, 3, 30), 0},
	}
	for _, id := range []int{2, 3, 4, mapped, set, sorted} {
		l = append(l,
			step{id, push(40), nil, api.ErrKind},
			step{id, pop(), nil, api.ErrKind},
			step{id, take(4), nil, api.ErrNone},
			step{id, object.Op{Code: object.Take, Key: value.Text("1")}, nil, api.ErrNone})
	}
	for _, id := range []int{1, 2, 3, 4, vector, mapped, set, sorted} {
		for _, c := range []object.Code{0, 1, 2, 3, 4, 5, 6, 7, 15, 20, 255} {
			l = append(l, step{id, object.Op{Code: c, Key: value.Number(1)}, nil, api.ErrArg})
		}
	}
	return l
}

// whole checks all entries of an object.
func whole(t *testing.T, x *transient.Table, id int, want []value.Value) {
	t.Helper()
	lists(t, want...)(x.Tells(id, object.Op{Code: object.Page, N: 64}))
}

// page is all entries of an object.
func page(x *transient.Table, id int) []value.Value {
	l, _ := x.Tells(id, object.Op{Code: object.Page, N: 64})
	return l
}

// P14.2: Derive with each code on each kind, edge by edge.
func TestDeriveOfThree(t *testing.T) {
	for _, s := range steps() {
		x := three(t)
		old, was := page(x, s.id), cells(x.Land)
		if s.e == api.OK {
			numbered(t, fresh)(x.Derive(s.id, s.op))
			whole(t, x, fresh, s.want)
			k, n, _, _ := x.Of(s.id)
			tells(t, x, s.id, told{k, n, false, true})
			whole(t, x, s.id, old)
			numbered(t, fresh+1)(x.Thaw(fresh))
			continue
		}
		fails(t, s.e)(x.Derive(s.id, s.op))
		unchanged(t, x.Land, was)
		whole(t, x, s.id, old)
		numbered(t, fresh)(x.Derive(vector, pop()))
	}
}

// P14.2: Change with each code on each kind, edge by edge.
func TestChangeOfThree(t *testing.T) {
	for _, s := range steps() {
		x := three(t)
		old := page(x, s.id)
		numbered(t, fresh)(x.Thaw(s.id))
		was := cells(x.Land)
		is(t, x.Change(fresh, s.op), s.e)
		if s.e == api.OK {
			whole(t, x, fresh, s.want)
		} else {
			unchanged(t, x.Land, was)
			whole(t, x, fresh, old)
		}
		whole(t, x, s.id, old)
		_, _, thawed, ok := x.Of(fresh)
		if !thawed || !ok || x.Count() != fresh {
			t.Error("the transient is none any more")
		}
		numbered(t, fresh+1)(x.Make(object.Set))
	}
}

// always is an operation that no object refuses.
func always(k object.Kind) object.Op {
	if k == object.Vector {
		return push(7)
	}
	return put(7, 7)
}

// P14.2: Derive of a version with each code that changes, and with operations that are
// refused; the version remains, and is derived from again.
func TestDerive(t *testing.T) {
	each(t, versions(), func(w *twin, id int) {
		p := w.must.objects[id]
		for range 2 {
			for _, op := range done(p.kind, p.len()) {
				made := w.derive(id, op)
				tells(w.T, w.Table, made, told{p.kind, w.must.objects[made].len(), false, true})
				w.has(made)
				w.has(id)
				w.release(w.derive(made, always(p.kind)))
			}
			w.same()
			for _, r := range refused(p.kind, p.len()) {
				w.derive(id, r.op)
			}
		}
	}, 0, 1, 2, 3, 32, 33, 65)
}

// every is all operations for an object of n values or keys: those that it does not
// refuse, those that it refuses, and those that read.
func every(k object.Kind, n int) []object.Op {
	l := append(done(k, n), reading(n)...)
	for _, r := range refused(k, n) {
		l = append(l, r.op)
	}
	return l
}

// P14.2: a transient is not derived from, and not thawed, whatever the operation is.
func TestNotOfTransients(t *testing.T) {
	each(t, transients(), func(w *twin, id int) {
		p, was := w.must.objects[id], cells(w.Land)
		for _, op := range every(p.kind, p.len()) {
			fails(w.T, api.ErrState)(w.Derive(id, op))
		}
		fails(w.T, api.ErrState)(w.Thaw(id))
		unchanged(w.T, w.Land, was)
		w.same()
		w.freeze(id)
		w.thaw(id)
		w.derive(id, always(p.kind))
	}, 0, 1, 2, 33)
}

// P14.2: Thaw adds a transient with what the version has, which remains a version.
func TestThaw(t *testing.T) {
	each(t, versions(), func(w *twin, id int) {
		p := w.must.objects[id]
		first, second := w.thaw(id), w.thaw(id)
		tells(w.T, w.Table, first, told{p.kind, p.len(), true, true})
		tells(w.T, w.Table, id, told{p.kind, p.len(), false, true})
		for _, op := range done(p.kind, p.len()) {
			third := w.thaw(id)
			w.change(third, op)
			w.has(third)
		}
		w.same()
		w.release(id)
		w.same()
		w.change(first, always(p.kind))
		w.same()
		w.release(second)
		w.has(first)
	}, 0, 1, 2, 3, 32, 33, 65)
}

// P14.2: Change of a transient with operations that are refused, and leave it as it is,
// and with each code that changes, until it is empty; no other object is changed.
func TestChange(t *testing.T) {
	each(t, transients(), func(w *twin, id int) {
		kind, n := w.must.objects[id].kind, w.must.objects[id].len()
		for _, r := range refused(kind, n) {
			w.change(id, r.op)
		}
		w.same()
		for _, op := range done(kind, n) {
			w.change(id, op)
			w.has(id)
		}
		w.same()
		for _, v := range append(some(n), value.Text("other")) {
			w.change(id, pop())
			w.change(id, object.Op{Code: object.Take, Key: v})
		}
		for kind == object.Vector && w.must.objects[id].len() > 0 {
			w.change(id, pop())
		}
		w.same()
		tells(w.T, w.Table, id, told{kind, 0, true, true})
		w.change(id, always(kind))
		tells(w.T, w.Table, id, told{kind, 1, true, true})
	}, 0, 1, 2, 3, 32, 33, 65)
}

// P14.2: a version is not changed, and not frozen, whatever the operation is.
func TestNotOfVersions(t *testing.T) {
	each(t, versions(), func(w *twin, id int) {
		p, was := w.must.objects[id], cells(w.Land)
		for _, op := range every(p.kind, p.len()) {
			is(w.T, w.Change(id, op), api.ErrFrozen)
		}
		is(w.T, w.Freeze(id), api.ErrFrozen)
		unchanged(w.T, w.Land, was)
		w.same()
	}, 0, 1, 2, 33)
}

// P14.2: Freeze makes a transient a version, with its number, and for good.
func TestFreeze(t *testing.T) {
	each(t, transients(), func(w *twin, id int) {
		p, count, was := w.must.objects[id], w.Count(), cells(w.Land)
		w.freeze(id)
		unchanged(w.T, w.Land, was)
		tells(w.T, w.Table, id, told{p.kind, p.len(), false, true})
		is(w.T, w.Freeze(id), api.ErrFrozen)
		for _, op := range every(p.kind, p.len()) {
			is(w.T, w.Change(id, op), api.ErrFrozen)
		}
		unchanged(w.T, w.Land, was)
		if w.Count() != count {
			w.Errorf("Count is %d, was %d", w.Count(), count)
		}
		for _, op := range done(p.kind, p.len()) {
			w.derive(id, op)
			w.change(w.thaw(id), op)
		}
	}, 0, 1, 2, 3, 33, 65)
}

// P14.2: what is frozen is thawed, changed and frozen again; all that was before remains.
func TestFreezeAndThawAgain(t *testing.T) {
	each(t, all(), func(w *twin, id int) {
		if w.must.objects[id].thawed {
			w.freeze(id)
		}
		next := random(1)
		for range 12 {
			p := w.must.objects[id]
			made := w.thaw(id)
			for range next(4) {
				l := done(p.kind, p.len())
				w.change(made, l[next(len(l))])
			}
			w.same()
			w.freeze(made)
			is(w.T, w.Freeze(made), api.ErrFrozen)
			if next(3) == 0 {
				w.release(id)
			}
			id = made
		}
		w.same()
	}, 0, 1, 3, 33)
}

// Rule 1: where two errors could be returned, the one that is named first is: that there
// is no such object, then that it is a transient, or a version, then what Write returns.
func TestWhichError(t *testing.T) {
	x := three(t)
	numbered(t, fresh)(x.Thaw(vector))
	fill(t, x.Land, 0)
	was := cells(x.Land)
	for _, op := range []object.Op{{}, {Code: object.Get}, {Code: 255}, push(1), pop(), put(9, 9), take(0), {Code: object.Take}} {
		for _, id := range []int{-1, 0, fresh + 1} {
			fails(t, api.ErrNone)(x.Derive(id, op))
			is(t, x.Change(id, op), api.ErrNone)
			none(t, api.ErrNone)(x.Tells(id, op))
		}
		fails(t, api.ErrState)(x.Derive(fresh, op))
		for id := 1; id < fresh; id++ {
			is(t, x.Change(id, op), api.ErrFrozen)
		}
	}
	for _, s := range steps() {
		if s.e == api.OK {
			continue
		}
		fails(t, s.e)(x.Derive(s.id, s.op))
		if s.id == vector {
			is(t, x.Change(fresh, s.op), s.e)
		}
	}
	fails(t, api.ErrFull)(x.Derive(vector, push(1)))
	is(t, x.Change(fresh, push(1)), api.ErrFull)
	fails(t, api.ErrFull)(x.Derive(sorted, put(1, 1)))
	unchanged(t, x.Land, was)
	if x.Count() != fresh {
		t.Errorf("Count is %d", x.Count())
	}
}

// P14.2: what Write refuses since there are 1024 values or keys.
func TestTooMany(t *testing.T) {
	each(t, []way{frozen, thawed}, func(w *twin, id int) {
		p := w.must.objects[id]
		more := object.Op{Code: object.Put, Key: value.Text("other")}
		if p.kind == object.Vector {
			more = push(1)
		}
		if p.thawed {
			is(w.T, w.Change(id, more), api.ErrLong)
			w.change(id, put(0, 1))
			w.has(id)
			w.freeze(id)
		}
		fails(w.T, api.ErrLong)(w.Derive(id, more))
		w.has(w.derive(id, put(0, 1)))
		tells(w.T, w.Table, id, told{p.kind, 1024, false, true})
	}, 1024)
}

// P14.2: Release of versions and of transients, and a second time; the others remain.
func TestRelease(t *testing.T) {
	each(t, all(), func(w *twin, id int) {
		count := w.Count()
		w.release(id)
		tells(w.T, w.Table, id, told{})
		if w.Count() != count-1 {
			w.Errorf("Count is %d, was %d", w.Count(), count)
		}
		for range 2 {
			is(w.T, w.Release(id), api.ErrNone)
		}
		w.same()
	}, 0, 1, 2, 33, 65)
}
