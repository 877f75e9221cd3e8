package transient_test

import (
	"fmt"
	"math"
	"slices"
	"testing"

	"easement/api"
	"easement/arena"
	"easement/hamt"
	"easement/hash"
	"easement/object"
	"easement/transient"
	"easement/value"
)

// Rule 3: what Tells returns shares no memory with the object, nor with what it returns another time.
func TestResultsAreApart(t *testing.T) {
	each(t, all(), func(w *twin, id int) {
		was := cells(w.Land)
		for _, op := range reading(w.must.objects[id].len()) {
			first, _ := w.Tells(id, op)
			second, _ := w.Tells(id, op)
			want := slices.Clone(second)
			if len(first) > 0 {
				_ = append(first[:len(first)-1], value.Text("other"))
			}
			_ = append(first, value.Text("more"))
			clear(first[:cap(first)])
			if !slices.Equal(second, want) {
				w.Fatalf("two results of Tells with %s share memory", brief(op))
			}
			w.tells(id, op)
		}
		unchanged(w.T, w.Land, was)
	}, 1, 2, 33, 70)
}

// Rule 3: what Tells returned stays as it is when its object is changed, frozen and released.
func TestResultsLast(t *testing.T) {
	each(t, transients(), func(w *twin, id int) {
		kind, n := w.must.objects[id].kind, w.must.objects[id].len()
		var got, want [][]value.Value
		for _, op := range reading(n) {
			l, _ := w.Tells(id, op)
			m, _ := w.must.tells(id, op)
			got, want = append(got, l), append(want, slices.Clone(m))
		}
		for i, k := range some(n) {
			if kind == object.Vector {
				k = value.Number(int64(i))
			}
			w.change(id, object.Op{Code: object.Put, Key: k, Val: value.Text("other")})
		}
		w.freeze(id)
		w.release(id)
		if !slices.EqualFunc(got, want, slices.Equal[[]value.Value]) {
			w.Error("results are changed with their object")
		}
	}, 1, 2, 33, 70)
}

// Rule 3: an operation and a land are as they were behind each call.
func TestArgumentsRemain(t *testing.T) {
	each(t, all(), func(w *twin, id int) {
		p := w.must.objects[id]
		x := w.Land
		for _, op := range every(p.kind, p.len()) {
			same := op
			w.tells(id, op)
			w.derive(id, op)
			w.change(id, op)
			if op != same || w.Land != x {
				w.Fatal("an argument is changed")
			}
		}
		w.same()
	}, 0, 1, 33)
}

// P2: the same calls return the same, whatever is done with other tables between
// them, on other lands or on the same one.
func TestSameCallsSameResults(t *testing.T) {
	run := func(x hamt.Land, others ...*transient.Table) string {
		w, e := transient.New(x)
		is(t, e, api.OK)
		next := random(3)
		text := ""
		for range 1500 {
			k, id := object.Kind(next(6)), next(w.Count()+4)
			op := object.Op{Code: object.Code(next(21)), Key: some(40)[next(40)], Val: some(9)[next(9)], From: next(9), N: next(65)}
			call := next(12)
			for _, other := range others {
				calls(other, call, k, id, op)
				calls(other, (call+7)%12, k, id+1, op)
			}
			text += calls(w, call, k, id, op)
		}
		return text
	}
	x, y := land(t, 50000), land(t, 50000)
	first, _ := transient.New(x)
	second, _ := transient.New(y)
	if run(land(t, 50000)) != run(x, first, second, nil) {
		t.Error("the same calls return something else")
	}
}

// calls makes one call, and tells all that it returns.
func calls(x *transient.Table, call int, k object.Kind, id int, op object.Op) string {
	switch call {
	case 0:
		return fmt.Sprint(x.Make(k))
	case 1:
		return fmt.Sprint(x.Derive(id, op))
	case 2:
		return fmt.Sprint(x.Thaw(id))
	case 3:
		return fmt.Sprint(x.Freeze(id))
	case 4:
		return fmt.Sprint(x.Release(id))
	case 5:
		return fmt.Sprint(x.Tells(id, op))
	case 6:
		return fmt.Sprint(x.Of(id))
	case 7:
		return fmt.Sprint(x.Count())
	}
	op.Code = 16 + op.Code%4
	return fmt.Sprint(x.Change(id, op))
}

// Two tables on one land have numbers of their own, and none changes the other's objects.
func TestTwoTables(t *testing.T) {
	for _, k := range kinds() {
		a := newTwin(t, 900)
		b := twinOn(t, a.Land)
		for i, w := range []*twin{a, b, a, b} {
			id := changed(w, k, 20)
			w.change(id, always(k))
			if i < 2 {
				w.freeze(id)
				w.thaw(id)
			}
			a.same()
			b.same()
		}
		for id := range a.must.last {
			a.Release(id + 1)
		}
		b.same()
		a.must.objects = map[int]plain{}
		a.same()
		b.end()
	}
}

// No call panics, or fails to end, for keys and values that are not valid, or with a
// table that New did not return.
func TestStrangersDoNotPanic(t *testing.T) {
	bare := []hamt.Land{{}, {Arena: &arena.Arena{}}, {Hasher: &hash.Hasher{}}, {Arena: &arena.Arena{}, Hasher: &hash.Hasher{}}}
	tables := []*transient.Table{nil, newTwin(t, 9).Table, newTwin(t, 900).Table, {}}
	for _, x := range bare {
		tables = append(tables, &transient.Table{Land: x})
	}
	strange := []value.Value{{Kind: 4}, {Kind: 255, N: math.MinInt64, S: "x"}, {Kind: value.Bool, N: 7}, {Kind: value.Int, N: 1, S: "x"}, {Kind: value.Nil, S: "x"}, value.Text(string(make([]byte, 70000)))}
	for _, x := range tables {
		for k := range object.Kind(7) {
			id, _ := x.Make(k)
			thawed, _ := x.Thaw(id)
			for c := range object.Code(21) {
				for i, v := range strange {
					op := object.Op{Code: c, Key: v, Val: strange[len(strange)-1-i], From: i, N: 9}
					x.Tells(id, op)
					x.Tells(thawed, op)
					x.Derive(id, op)
					x.Change(thawed, op)
				}
			}
			x.Of(id)
			x.Freeze(thawed)
			x.Release(thawed)
			x.Release(id)
			x.Count()
		}
	}
}
