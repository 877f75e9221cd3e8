package hset_test

import (
	"slices"
	"testing"

	"easement/api"
	"easement/hamt"
	"easement/hset"
	"easement/value"
)

// held is a set of a model, with its values. With an owner it is changed in place.
type held struct {
	s     hset.Set
	l     []value.Value
	owner uint32
}

// model is sets in one land, held against lists.
type model struct {
	x     hamt.Land
	all   []value.Value // those that the sets may have
	next  func(below int) int
	owner uint32 // the last one that was assigned
	hs    []held
}

// keeps keeps what was made, if there is no error, and tells whether there was not enough room.
func (m *model) keeps(t *testing.T, s hset.Set, e api.Errno, l []value.Value) bool {
	t.Helper()
	if e == api.OK {
		m.hs = append(m.hs, held{s: s, l: l})
		return false
	}
	fails(t, api.ErrFull)(s, e)
	if m.x.Room() >= 12*len(l)+20 {
		t.Fatalf("a call returns %d, with room for %d cells", e, m.x.Room())
	}
	return true
}

// change adds a value to a set, or takes it from it.
func (m *model) change(t *testing.T, i int) bool {
	t.Helper()
	h := m.hs[i]
	v := m.all[m.next(len(m.all))]
	at := slices.Index(h.l, v)
	l := slices.Clone(h.l)
	var s hset.Set
	var e api.Errno
	if m.next(2) == 0 {
		s, e = hset.Add(m.x, h.s, v, h.owner)
		if at < 0 {
			l = append(l, v)
		}
	} else {
		s, e = hset.Take(m.x, h.s, v, h.owner)
		if at < 0 {
			fails(t, api.ErrNone)(s, e)
			return false
		}
		l = slices.Delete(l, at, at+1)
	}
	if h.owner == 0 || e != api.OK {
		return m.keeps(t, s, e, l)
	}
	m.hs[i] = held{s, l, h.owner}
	return false
}

// step makes one call, and tells whether there was not enough room for it.
func (m *model) step(t *testing.T) bool {
	t.Helper()
	i, j := m.next(len(m.hs)), m.next(len(m.hs))
	h, other := m.hs[i], m.hs[j]
	switch kind := m.next(12); {
	case kind < 5:
		return m.change(t, i)
	case kind < 8:
		o := operations()[m.next(3)]
		s, e := o.do(m.x, h.s, other.s)
		return m.keeps(t, s, e, o.want(h.l, other.l))
	case kind == 8:
		w := wishes(m.all)[m.next(5)]
		s, e := hset.From(m.x, w.wants, hset.Values(m.x, h.s), slices.Values(other.l))
		return m.keeps(t, s, e, wanted(operations()[0].want(h.l, other.l), w.wants))
	case kind == 9 && h.owner == 0: // one that is changed in place beside the one that lasts
		m.x.Keep(h.s.Root)
		m.owner++
		m.hs = append(m.hs, held{h.s, h.l, m.owner})
	case kind == 9:
		m.hs[i].owner = 0
	case len(m.hs) > 5:
		drop(m.x, h.s)
		m.hs = slices.Delete(m.hs, i, i+1)
	}
	return false
}

// check checks that all sets are what they must be.
func (m *model) check(t *testing.T) {
	t.Helper()
	for _, h := range m.hs {
		has(t, m.x, h.s, h.l)
		for _, v := range m.all {
			if in := slices.Contains(h.l, v); hset.Has(m.x, h.s, v) != in {
				t.Fatalf("Has of %.80v is %t", v, !in)
			}
		}
	}
}

// P10.1, P10.2, P10.3: through many calls all sets are what they must be; once all are dropped, no cell is live.
func TestModel(t *testing.T) {
	full := 0
	for first := range uint64(16) {
		next := random(first)
		m := &model{x: land(t, 20+next(10+30*int(first))), all: mixed(t, 5+next(40)), next: next, hs: []held{{}}}
		for i := range 1500 {
			if m.step(t) {
				full++
			}
			if i%20 == 0 {
				m.check(t)
			}
		}
		m.check(t)
		for _, h := range m.hs {
			drop(m.x, h.s)
		}
		none(t, m.x)
	}
	if full == 0 {
		t.Error("no arena was ever too full")
	}
}
