package object_test

import (
	"fmt"
	"slices"
	"testing"

	"easement/api"
	"easement/hamt"
	"easement/object"
	"easement/value"
)

// held is an object of a model, with what it must have. With an owner it is changed in place.
type held struct {
	o     object.Object
	p     plain
	owner uint32
}

// model is objects of all kinds in one land, held against plain ones.
type model struct {
	x     hamt.Land
	keys  []value.Value // those that are put
	next  func(below int) int
	owner uint32 // the last one that was assigned
	all   []held
	full  int // how often there was not enough room
}

// key is one for a call: often one that is there, or a position.
func (m *model) key(p plain) value.Value {
	if p.kind == 1 && m.next(10) > 0 {
		return value.Number(int64(m.next(p.len()+3) - 1))
	}
	return m.keys[m.next(len(m.keys))]
}

// write makes a change of an object.
func (m *model) write(t *testing.T, i int) {
	t.Helper()
	h := m.all[i]
	op := object.Op{Code: object.Code(15 + m.next(6)), Key: m.key(h.p), Val: m.keys[m.next(len(m.keys))]}
	if h.p.kind == 1 && m.next(3) == 0 {
		op.Code = object.Push
	}
	want, fault := h.p.write(op)
	was, room := look(m.x), m.x.Room()
	made, e := object.Write(m.x, h.o, op, h.owner)
	if e != api.OK {
		if fault == api.OK {
			m.full++
			fault = api.ErrFull
		}
		if e == api.ErrFull && room >= plenty(h.p) {
			t.Fatalf("Write returns %d, with room for %d cells", e, room)
		}
		fails(t, fault)(made, e)
		unchanged(t, m.x, was)
		return
	}
	has(t, m.x, made, want)
	if h.owner == 0 {
		m.all = append(m.all, held{o: made, p: want})
	} else {
		m.all[i] = held{made, want, h.owner}
	}
}

// read reads an object.
func (m *model) read(t *testing.T, i int) {
	t.Helper()
	h := m.all[i]
	op := object.Op{Code: object.Code(m.next(9)), Key: m.key(h.p), From: m.next(h.p.len()+3) - 1, N: m.next(67) - 1}
	readsAs(t, m.x, h.o, h.p, op)
}

// step makes one call.
func (m *model) step(t *testing.T) {
	t.Helper()
	i := m.next(len(m.all))
	h := m.all[i]
	switch kind := m.next(20); {
	case kind < 12:
		m.write(t, i)
	case kind < 16:
		m.read(t, i)
	case kind == 16: // one that is changed in place beside the one that lasts
		object.Keep(m.x, h.o)
		m.owner++
		m.all = append(m.all, held{h.o, h.p, m.owner})
		m.all[i].owner = 0
	case kind == 17:
		m.all[i].owner = 0
	case len(m.all) > 8:
		object.Drop(m.x, h.o)
		m.all = slices.Delete(m.all, i, i+1)
	default:
		o, e := object.New(kinds()[m.next(4)])
		if e != api.OK {
			t.Fatal(e)
		}
		m.all = append(m.all, held{o: o, p: plain{kind: o.Kind}})
	}
}

// P13.1, P13.2, P13.3: through many calls all objects are what they must be; once all are dropped, no cell is live.
func TestModel(t *testing.T) {
	t.Parallel()
	for first := range uint64(16) {
		t.Run(fmt.Sprint(first), func(t *testing.T) {
			t.Parallel()
			next := random(first)
			m := &model{x: land(t, 30+next(10+60*int(first))), keys: ordinary(5 + next(60)), next: next, all: []held{{p: plain{kind: 1}}}}
			m.all[0].o.Kind = 1
			for range 2000 {
				m.step(t)
				if i := next(len(m.all)); next(3) == 0 {
					has(t, m.x, m.all[i].o, m.all[i].p)
				}
			}
			if first < 3 && m.full == 0 {
				t.Error("the arena was never too full")
			}
			for _, h := range m.all {
				has(t, m.x, h.o, h.p)
				object.Drop(m.x, h.o)
			}
			none(t, m.x)
		})
	}
}
