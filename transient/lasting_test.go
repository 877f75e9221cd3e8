package transient_test

import (
	"fmt"
	"maps"
	"slices"
	"testing"

	"easement/object"
	"easement/value"
)

// owners are those of all live cells that have one, in their order.
func owners(w *twin) []uint32 {
	seen := map[uint32]bool{}
	for _, c := range cells(w.Land) {
		if c.is.Owner != 0 {
			seen[c.is.Owner] = true
		}
	}
	return slices.Sorted(maps.Keys(seen))
}

// No two transients have one owner: they are assigned from 1 on, also behind those of
// transients that are frozen, or released, and by calls that fail none is.
func TestOwners(t *testing.T) {
	for _, k := range kinds() {
		w := newTwin(t, 400)
		v := derived(w, k, 3)
		if l := owners(w); l != nil {
			t.Fatalf("versions have the owners %v", l)
		}
		var want []uint32
		from := v
		for i := range uint32(20) {
			id := w.thaw(from)
			w.change(id, always(k))
			if i%4 == 3 {
				w.release(id)
			} else {
				want = append(want, i+1)
			}
			if l := owners(w); !slices.Equal(l, want) {
				t.Fatalf("the owners of the kind %d are %v, want %v", k, l, want)
			}
			w.thaw(id)
			w.thaw(-1)
			w.freeze(v)
			if i%4 == 2 {
				w.freeze(id)
				w.derive(id, always(k))
			}
		}
		w.end()
	}
}

// What a transient has changed is its own: a second change is made in place. A
// transient that is thawed from it once it is frozen has another owner, and changes
// none of its cells in place, even where no other object holds them.
func TestOwnerOfThawedAgain(t *testing.T) {
	for _, k := range kinds() {
		w := newTwin(t, 400)
		id := changed(w, k, 40)
		op := done(k, 40)[len(done(k, 40))/2]
		op.Code = object.Put
		l := fill(t, w.Land, 0)
		w.change(id, op)
		if w.full > 0 {
			t.Fatalf("a transient of the kind %d is not changed in place", k)
		}
		w.freeze(id)
		again := w.thaw(id)
		w.release(id)
		w.change(again, op)
		if w.full != 1 {
			t.Fatalf("cells of another owner, of the kind %d, are changed in place", k)
		}
		drop(w.Land, l)
		w.change(again, op)
		w.has(again)
		w.end()
	}
}

// walk makes changes of other objects, which all come from one.
func walk(w *twin, id int, next func(int) int) {
	k := w.must.objects[id].kind
	keys := some(w.must.objects[id].len() + 9)
	others := []int{w.thaw(id), w.derive(id, always(k)), w.thaw(id)}
	for range 250 {
		i := next(len(others))
		op := object.Op{Code: object.Code(16 + next(4)), Key: keys[next(len(keys))], Val: value.Number(int64(next(99)))}
		if k == object.Vector {
			op.Key = value.Number(int64(next(len(keys))))
		}
		made := 0
		switch next(12) {
		case 0:
			made = w.thaw(others[i])
		case 1, 2, 3:
			made = w.derive(others[i], op)
		case 4:
			w.freeze(others[i])
		case 5:
			if len(others) > 3 {
				w.release(others[i])
				others = slices.Delete(others, i, i+1)
			}
		default:
			w.change(others[i], op)
		}
		if made > 0 {
			others = append(others, made)
		}
		w.has(id)
	}
}

// P14.3: a version never changes, whatever is done to other objects: to transients
// that were thawed from it, to versions that were frozen from those, and so on.
func TestVersionsNeverChange(t *testing.T) {
	t.Parallel()
	for _, k := range kinds() {
		for _, n := range []int{0, 1, 2, 33, 100} {
			for i, build := range versions() {
				t.Run(fmt.Sprintf("kind %d of %d, way %d", k, n, i), func(t *testing.T) {
					t.Parallel()
					w := newTwin(t, 3000)
					id := build(w, k, n)
					ops := reading(n)
					var was [][]value.Value
					for _, op := range ops {
						l, _ := w.Tells(id, op)
						was = append(was, l)
					}
					walk(w, id, random(uint64(n)))
					for i, op := range ops {
						if l, _ := w.Tells(id, op); !slices.Equal(l, was[i]) {
							t.Fatalf("the version tells %s for %s, was %s", brief(l), brief(op), brief(was[i]))
						}
					}
					w.end()
				})
			}
		}
	}
}

// P14.3: a version that is thawed, and transients that are thawed from one version, are apart.
func TestThawedApart(t *testing.T) {
	each(t, versions(), func(w *twin, id int) {
		kind, n := w.must.objects[id].kind, w.must.objects[id].len()
		for _, first := range done(kind, n) {
			for _, second := range done(kind, n) {
				a, b := w.thaw(id), w.thaw(id)
				w.change(a, first)
				w.change(b, second)
				w.has(a)
				w.has(b)
				w.freeze(a)
				c := w.thaw(a)
				w.change(c, second)
				w.has(a)
				w.has(c)
				w.has(id)
				w.release(a)
				w.has(c)
				w.release(c)
				w.release(b)
			}
		}
	}, 0, 1, 2, 33, 65)
}

// orders calls a function with each order of some numbers.
func orders(l, behind []int, do func([]int)) {
	if len(l) == 0 {
		do(behind)
		return
	}
	for i := range l {
		rest := slices.Delete(slices.Clone(l), i, i+1)
		orders(rest, append(slices.Clone(behind), l[i]), do)
	}
}

// P14.3: in whichever order objects are released, those that are left remain as they
// were, and once all are released no cell is live.
func TestEveryOrderOfRelease(t *testing.T) {
	t.Parallel()
	for _, k := range kinds() {
		for _, n := range []int{0, 2, 35} {
			t.Run(fmt.Sprintf("kind %d of %d", k, n), func(t *testing.T) {
				t.Parallel()
				orders([]int{1, 2, 3, 4, 5}, nil, func(order []int) {
					w := newTwin(t, 400)
					first := derived(w, k, n)
					ops := done(k, n)
					a := w.derive(first, ops[0])
					b := w.thaw(a)
					w.change(b, always(k))
					w.freeze(b)
					c := w.thaw(b)
					w.change(c, ops[len(ops)-1])
					d := w.derive(b, ops[len(ops)/2])
					l := []int{first, a, b, c, d}
					w.same()
					for _, i := range order {
						w.release(l[i-1])
						for id := range w.must.objects {
							w.has(id)
						}
					}
					w.end()
				})
			})
		}
	}
}

// P14.3: many versions, each derived or frozen from the one before, last; once all are
// released, every second one first, no cell is live.
func TestManyVersions(t *testing.T) {
	t.Parallel()
	for _, k := range kinds() {
		w := newTwin(t, 4000)
		next := random(uint64(k))
		l := []int{w.make(k)}
		for len(l) < 250 {
			id := l[len(l)-1]
			op := object.Op{Code: object.Code(16 + next(4)), Key: some(90)[next(90)], Val: value.Number(int64(next(9)))}
			if k == object.Vector && next(2) == 0 {
				op.Code = object.Push
			}
			made := 0
			if next(2) == 0 {
				made = w.derive(id, op)
			} else {
				made = w.thaw(id)
				w.change(made, op)
				w.change(made, always(k))
				w.freeze(made)
			}
			if made > 0 {
				l = append(l, made)
			}
		}
		w.same()
		for i := 0; i < len(l); i += 2 {
			w.release(l[i])
		}
		w.end()
	}
}
