package pvec_test

import (
	"slices"
	"testing"

	"easement/api"
	"easement/arena"
	"easement/pvec"
	"easement/value"
)

// held is a vector with the values that it must have. With an owner it is
// changed in place; what is only kept beside that is read and dropped, as no
// other change may share the cells of an owner that is still used.
type held struct {
	v     pvec.Vec
	l     []value.Value
	owner uint32
	only  bool
}

// model has vectors in one arena, and the number of the last owner.
type model struct {
	a     *arena.Arena
	hs    []held
	owner uint32
	next  func(below int) int
}

// random returns numbers that follow from a first one alone.
func random(n uint64) func(below int) int {
	return func(below int) int {
		n = n*6364136223846793005 + 1442695040888963407
		return int(n >> 33 % uint64(below))
	}
}

// after is what a vector is after a random change with an owner, and what its values must be then.
func (m *model) after(h held, owner uint32) (pvec.Vec, []value.Value, api.Errno) {
	x := value.Number(int64(m.next(1 << 30)))
	n := len(h.l)
	kind := m.next(10)
	switch {
	case kind < 4 && n < api.MaxItems:
		v, e := pvec.Push(m.a, h.v, x, owner)
		return v, append(slices.Clone(h.l), x), e
	case kind < 7 && n > 0:
		v, e := pvec.Pop(m.a, h.v, owner)
		return v, slices.Clone(h.l[:n-1]), e
	case n > 0:
		i := m.next(n)
		v, e := pvec.Set(m.a, h.v, i, x, owner)
		l := slices.Clone(h.l)
		l[i] = x
		return v, l, e
	}
	v, e := pvec.Push(m.a, h.v, x, owner)
	return v, append(slices.Clone(h.l), x), e
}

// step makes one random call, and returns whether the arena was too full for it.
func (m *model) step(t *testing.T) bool {
	k := m.next(len(m.hs))
	h := m.hs[k]
	switch kind := m.next(12); {
	case kind == 0 && len(m.hs) > 3:
		pvec.Drop(m.a, h.v)
		m.hs = slices.Delete(m.hs, k, k+1)
	case kind == 1 && h.owner == 0 && !h.only: // thaw
		pvec.Keep(m.a, h.v)
		m.owner++
		m.hs = append(m.hs, held{v: h.v, l: h.l, owner: m.owner})
	case kind == 2 && h.owner != 0: // freeze
		m.hs[k].owner = 0
	case kind == 3:
		pvec.Keep(m.a, h.v)
		m.hs = append(m.hs, held{v: h.v, l: h.l, only: true})
	case h.owner == 0 && !h.only:
		v, l, e := m.after(h, 0)
		if e != api.OK {
			return m.full(t, v, e)
		}
		m.hs = append(m.hs, held{v: v, l: l})
	case h.owner != 0:
		v, l, e := m.after(h, h.owner)
		if e != api.OK {
			return m.full(t, v, e)
		}
		m.hs[k].v, m.hs[k].l = v, l
	}
	return false
}

// full checks that the only error is that of too little room.
func (m *model) full(t *testing.T, v pvec.Vec, e api.Errno) bool {
	t.Helper()
	if e != api.ErrFull || m.a.Room() >= 8 || v != (pvec.Vec{}) {
		t.Fatalf("a change returns %v, %d, with room for %d cells", v, e, m.a.Room())
	}
	return true
}

// P6.1, P6.2, P6.3: through many calls all vectors are what they must be; once all are dropped, no cell is live.
func TestModel(t *testing.T) {
	full := 0
	for seed := range uint64(40) {
		next := random(seed)
		m := &model{a: room(t, 30+next(200)), next: next}
		for _, n := range []int{0, 31, 33, 64, 65 + next(60)} {
			l := numbers(1, n)
			m.hs = append(m.hs, held{v: build(t, m.a, l, 0), l: l})
		}
		for i := range 1500 {
			if m.step(t) {
				full++
			}
			if len(m.hs) > 25 {
				k := next(len(m.hs))
				pvec.Drop(m.a, m.hs[k].v)
				m.hs = slices.Delete(m.hs, k, k+1)
			}
			if i%25 == 0 {
				for _, h := range m.hs {
					has(t, m.a, h.v, h.l)
				}
			}
		}
		for _, h := range m.hs {
			has(t, m.a, h.v, h.l)
			pvec.Drop(m.a, h.v)
		}
		none(t, m.a)
	}
	if full == 0 {
		t.Error("no arena was ever too full")
	}
}
