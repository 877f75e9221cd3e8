package object_test

import (
	"fmt"
	"testing"

	"easement/api"
	"easement/hamt"
	"easement/object"
	"easement/value"
)

// changes are operations that change an object that is filled, and have no error.
func changes(p plain) []object.Op {
	n := p.len()
	x := value.Text("x")
	if p.kind == 1 {
		l := []object.Op{{Code: object.Push, Val: x}}
		if n > 0 {
			l = append(l, object.Op{Code: object.Pop})
		}
		for _, i := range []int{0, n / 2, n - 1} {
			if i >= 0 && i < n {
				l = append(l, object.Op{Code: object.Put, Key: value.Number(int64(i)), Val: x})
			}
		}
		return l
	}
	var l []object.Op
	for _, k := range extra(3) {
		l = append(l, object.Op{Code: object.Put, Key: k, Val: x})
	}
	for i, k := range ordinary(n) {
		if i == 0 || i == n/2 || i == n-1 {
			l = append(l, object.Op{Code: object.Put, Key: k, Val: x}, object.Op{Code: object.Take, Key: k})
		}
	}
	return l
}

// after is what an object must have once an operation that has no error is done.
func after(t *testing.T, p plain, op object.Op) plain {
	t.Helper()
	q, e := p.write(op)
	if e != api.OK {
		t.Fatalf("the plain object has the error %d for %v", e, op)
	}
	return q
}

// way is a way to change an object: the owner that it was made with, how many
// references were kept, and the owner of the change.
type way struct {
	name   string
	maker  uint32
	kept   int
	editor uint32
}

// ways are all that the chapters of the kinds name.
func ways() []way {
	return []way{
		{"without an owner", 0, 0, 0},
		{"without an owner, of an owner's cells", 5, 0, 0},
		{"without an owner, kept", 5, 2, 0},
		{"with the owner", 5, 0, 5},
		{"with a great owner", 1<<32 - 3, 0, 1<<32 - 3},
		{"with the owner, kept", 5, 1, 5},
		{"with the owner, kept twice", 5, 2, 5},
		{"with another owner", 5, 0, 6},
		{"with another owner, kept", 5, 1, 6},
		{"with an owner, of cells of none", 0, 0, 5},
		{"with an owner, of cells of none, kept", 0, 1, 5},
	}
}

// P13.3: each change in each way: the result is what it should be, what was kept
// and what remains is as it was, and behind the last Drop no cell is live.
func TestEachChangeEachWay(t *testing.T) {
	t.Parallel()
	for _, k := range kinds() {
		t.Run(fmt.Sprintf("kind %d", k), func(t *testing.T) {
			t.Parallel()
			for _, n := range []int{0, 1, 2, 3, 31, 32, 33, 64, 65, 97} {
				p := filled(k, n)
				for _, op := range changes(p) {
					for _, w := range ways() {
						changeOnce(t, p, op, w)
					}
				}
			}
		})
	}
}

// changeOnce makes one change of an object, and drops all that there is then.
func changeOnce(t *testing.T, p plain, op object.Op, w way) {
	t.Helper()
	x := land(t, 600)
	o := build(t, x, p, w.maker)
	for range w.kept {
		object.Keep(x, o)
	}
	made, e := object.Write(x, o, op, w.editor)
	if e != api.OK {
		t.Fatalf("Write %s, of the kind %d with %v, returns %d", w.name, p.kind, op, e)
	}
	want := after(t, p, op)
	has(t, x, made, want)
	remain := w.kept
	if w.editor == 0 {
		remain++
	}
	for range remain {
		has(t, x, o, p)
		object.Drop(x, o)
	}
	has(t, x, made, want)
	if most := object.Cost(p.kind, made.Len()); x.Live() > most {
		t.Fatalf("Write %s: %d cells are live, at most %d", w.name, x.Live(), most)
	}
	object.Drop(x, made)
	none(t, x)
}

// An object never changes by what is made of others without an owner, whichever are dropped first.
func TestEachChangeThenChanged(t *testing.T) {
	t.Parallel()
	for _, k := range kinds() {
		for _, n := range []int{0, 1, 2, 33, 65} {
			p := filled(k, n)
			for _, c := range changes(p) {
				for _, d := range changes(p) {
					x := land(t, 600)
					o := build(t, x, p, 0)
					first, e := object.Write(x, o, c, 0)
					second, f := object.Write(x, o, d, 0)
					if e != api.OK || f != api.OK {
						t.Fatalf("the changes return %d and %d", e, f)
					}
					has(t, x, first, after(t, p, c))
					has(t, x, second, after(t, p, d))
					has(t, x, o, p)
					object.Drop(x, o)
					object.Drop(x, second)
					has(t, x, first, after(t, p, c))
					object.Drop(x, first)
					none(t, x)
				}
			}
		}
	}
}

// What an owner changes again and again is never seen in the object that Keep held.
func TestOwnerLeavesWhatWasKept(t *testing.T) {
	each(t, func(t *testing.T, x hamt.Land, o object.Object, p plain) {
		object.Keep(x, o)
		w, now := o, p
		next := random(uint64(p.len()))
		for range 300 {
			op := object.Op{Code: object.Code(16 + next(4)), Val: value.Number(int64(next(99)))}
			op.Key = ordinary(p.len() + 9)[next(p.len()+9)]
			if p.kind == 1 {
				op.Key = value.Number(int64(next(p.len() + 1)))
			}
			want, f := now.write(op)
			made, e := object.Write(x, w, op, 5)
			if e != f {
				t.Fatalf("Write with %v returns %d, want %d", op, e, f)
			}
			if e == api.OK {
				w, now = made, want
			}
			has(t, x, w, now)
			has(t, x, o, p)
		}
		object.Drop(x, w)
	}, 0, 1, 2, 33, 65, 100)
}

// All versions of an object, each made of the one before, are what they were, whichever are dropped first.
func TestAllVersionsLast(t *testing.T) {
	t.Parallel()
	for _, k := range kinds() {
		x := land(t, 60000)
		versions, wants := []object.Object{{Kind: k}}, []plain{{kind: k}}
		next := random(9)
		for len(versions) < 300 {
			i := next(20)
			op := object.Op{Code: object.Put, Key: ordinary(120)[next(120)], Val: value.Number(int64(i))}
			last := len(versions) - 1
			switch {
			case k == object.Vector && i < 12:
				op.Code = object.Push
			case k == object.Vector && i < 16:
				op.Code = object.Pop
			case k == object.Vector:
				op.Key = value.Number(int64(next(wants[last].len() + 1)))
			case i < 6:
				op.Code = object.Take
			}
			want, f := wants[last].write(op)
			made, e := object.Write(x, versions[last], op, 0)
			if e != f {
				t.Fatalf("Write with %v returns %d, want %d", op, e, f)
			}
			if e == api.OK {
				versions, wants = append(versions, made), append(wants, want)
			}
		}
		for i := 0; i < len(versions); i += 2 {
			object.Drop(x, versions[i])
		}
		for i := 1; i < len(versions); i += 2 {
			has(t, x, versions[i], wants[i])
			object.Drop(x, versions[i])
		}
		none(t, x)
	}
}
