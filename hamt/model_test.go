package hamt_test

import (
	"maps"
	"slices"
	"testing"

	"easement/api"
	"easement/hamt"
	"easement/value"
)

// held is a map with the content that it must have. With an owner it is changed
// in place; what is only kept beside that is read and dropped, as no other
// change may share the cells of an owner that is still used.
type held struct {
	m     hamt.Map
	c     content
	owner uint32
	only  bool
}

// model has maps in one land, the keys that they may have, and the number of the last owner.
type model struct {
	x     hamt.Land
	keys  []value.Value
	hs    []held
	owner uint32
	next  func(below int) int
}

// random returns numbers that follow from a first one alone.
func random(n uint64) func(below int) int {
	return func(below int) int {
		n = n*6364136223846793005 + 1442695040888963407
		return int(n >> 33 % uint64(below))
	}
}

// after is what a map is after a random change with an owner, and what its content must be then.
func (s *model) after(t *testing.T, h held, owner uint32) (hamt.Map, content, api.Errno) {
	k := s.keys[s.next(len(s.keys))]
	_, there := h.c[k]
	if s.next(3) == 0 || there && s.next(3) == 0 {
		m, e := s.x.Take(h.m, k, owner)
		if (e == api.ErrNone) == there {
			t.Fatalf("Take returns %d, and the key is there: %t", e, there)
		}
		return m, h.c.without(k), e
	}
	v := value.Number(int64(s.next(1 << 30)))
	m, e := s.x.Put(h.m, k, v, owner)
	return m, h.c.with(k, v), e
}

// step makes one random call, and returns whether the arena was too full for it.
func (s *model) step(t *testing.T) bool {
	i := s.next(len(s.hs))
	h := s.hs[i]
	switch kind := s.next(12); {
	case kind == 0 && len(s.hs) > 3 || len(s.hs) > 25:
		drop(s.x, h.m)
		s.hs = slices.Delete(s.hs, i, i+1)
	case kind == 1 && h.owner == 0 && !h.only: // thaw
		s.x.Keep(h.m.Root)
		s.owner++
		s.hs = append(s.hs, held{m: h.m, c: h.c, owner: s.owner})
	case kind == 2 && h.owner != 0: // freeze
		s.hs[i].owner = 0
	case kind == 3:
		s.x.Keep(h.m.Root)
		s.hs = append(s.hs, held{m: h.m, c: h.c, only: true})
	case !h.only:
		m, c, e := s.after(t, h, h.owner)
		switch {
		case e != api.OK:
			return s.failed(t, m, e)
		case h.owner == 0:
			s.hs = append(s.hs, held{m: m, c: c})
		default:
			s.hs[i].m, s.hs[i].c = m, c
		}
	}
	return false
}

// failed checks an error, and returns whether it is that of too little room.
func (s *model) failed(t *testing.T, m hamt.Map, e api.Errno) bool {
	t.Helper()
	full := e == api.ErrFull && s.x.Room() < 20
	if m != (hamt.Map{}) || !full && e != api.ErrNone {
		t.Fatalf("a change returns %v, %d, with room for %d cells", m, e, s.x.Room())
	}
	return full
}

// P8.1, P8.2, P8.3: through many calls all maps are what they must be; once all are dropped, no cell is live.
func TestModel(t *testing.T) {
	for _, f := range families() {
		t.Run(f.name, func(t *testing.T) {
			t.Parallel()
			full := 0
			for first := range uint64(12) {
				next := random(first)
				s := &model{x: land(t, 5+next(10+20*int(first))), keys: f.make(t, 5+next(60)), next: next}
				s.hs = []held{{c: content{}}}
				for i := range 1500 {
					if s.step(t) {
						full++
					}
					if len(s.hs) == 0 {
						s.hs = []held{{c: content{}}}
					}
					if i%25 == 0 {
						s.check(t)
					}
				}
				s.check(t)
				for _, h := range s.hs {
					drop(s.x, h.m)
				}
				none(t, s.x)
			}
			if full == 0 {
				t.Error("no arena was ever too full")
			}
		})
	}
}

// check checks that all maps are what they must be, and that no cell is live beside theirs.
func (s *model) check(t *testing.T) {
	t.Helper()
	live := map[int]bool{}
	for _, h := range s.hs {
		has(t, s.x, h.m, h.c, s.keys...)
		l := reached(s.x, h.m.Root)
		if len(l) > 12*h.m.N {
			t.Fatalf("a map of %d keys takes %d cells", h.m.N, len(l))
		}
		for _, i := range l {
			live[i] = true
		}
	}
	if s.x.Live() != len(live) {
		t.Fatalf("%d cells are live, and the maps have %d: %v", s.x.Live(), len(live), slices.Sorted(maps.Keys(live)))
	}
}
