package transient_test

import (
	"fmt"
	"maps"
	"slices"
	"testing"

	"easement/object"
	"easement/value"
)

// mix makes calls for a twin, by chance.
type mix struct {
	*twin
	most int // how many objects there are at most
	keys []value.Value
	next func(below int) int
}

// id is the number of an object, or rarely any other.
func (m mix) id() int {
	l := slices.Sorted(maps.Keys(m.must.objects))
	if len(l) == 0 || m.next(20) == 0 {
		return m.next(m.must.last+4) - 1
	}
	return l[m.next(len(l))]
}

// key is one for a call on an object: often one that it has, or a position.
func (m mix) key(id int) value.Value {
	if p := m.must.objects[id]; p.kind == 1 && m.next(10) > 0 {
		return value.Number(int64(m.next(p.len()+3) - 1))
	}
	return m.keys[m.next(len(m.keys))]
}

// writing is an operation that changes an object, or one that is refused. Most make
// it greater.
func (m mix) writing(id int) object.Op {
	op := object.Op{Code: object.Code(16 + m.next(4)), Key: m.key(id), Val: m.keys[m.next(len(m.keys))]}
	switch n := m.next(20); {
	case n == 0:
		op.Code = object.Code(m.next(256))
	case n < 10 && m.must.objects[id].kind == object.Vector:
		op.Code = object.Push
	case n < 10:
		op.Code = object.Put
	}
	return op
}

// step makes one call.
func (m mix) step() {
	id := m.id()
	switch n := m.next(40); {
	case len(m.must.objects) > m.most || n == 0:
		m.release(id)
	case n == 1:
		m.make(kinds()[m.next(4)])
	case n < 5:
		m.derive(id, m.writing(id))
	case n < 8:
		m.thaw(id)
	case n < 10:
		m.freeze(id)
	case n < 35:
		m.change(id, m.writing(id))
	default:
		size := m.must.objects[id].len()
		m.tells(id, object.Op{Code: object.Code(m.next(9)), Key: m.key(id), From: m.next(size+3) - 1, N: m.next(67) - 1})
	}
}

// P14.1, P14.2, P14.3: through many calls a table is what it must be; once all objects are released, no cell is live.
func TestModel(t *testing.T) {
	t.Parallel()
	for first := range uint64(24) {
		t.Run(fmt.Sprint(first), func(t *testing.T) {
			t.Parallel()
			next := random(first)
			room := []int{15, 30, 60, 150, 500, 1200}[first%6]
			m := mix{newTwin(t, room), 6 + next(25), some(5 + next(120)), next}
			for _, k := range kinds() {
				changed(m.twin, k, room/15)
			}
			for range 3000 {
				m.step()
				if next(4) == 0 {
					m.same()
				}
			}
			if room < 50 && m.full == 0 {
				t.Error("the arena was never too full")
			}
			m.end()
		})
	}
}
