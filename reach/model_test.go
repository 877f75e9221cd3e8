package reach_test

import (
	"slices"
	"testing"

	"easement/api"
	"easement/hamt"
	"easement/treap"
	"easement/value"
)

// with is the list with a pair.
func (l list) with(k, v value.Value) list {
	l = l.without(k)
	return slices.Insert(l, l.below(k), hamt.Pair{Key: k, Value: v})
}

// without is the list without a key.
func (l list) without(k value.Value) list {
	return slices.DeleteFunc(slices.Clone(l), func(p hamt.Pair) bool { return p.Key == k })
}

// version is a tree, with the list that it must have.
type version struct {
	tree treap.Tree
	list list
}

// model has versions of a tree in one land, and the keys that they may have.
type model struct {
	x    hamt.Land
	keys []value.Value
	all  []version
	next func(below int) int
}

// change makes a version of a random one, or, with an owner, of it in place.
func (s *model) change(t *testing.T) {
	t.Helper()
	i := s.next(len(s.all))
	v, k := s.all[i], s.keys[s.next(len(s.keys))]
	owner := uint32(s.next(2) * 7)
	is := version{list: v.list.without(k)}
	var e api.Errno
	if len(is.list) < len(v.list) && s.next(2) == 0 {
		is.tree, e = treap.Take(s.x, v.tree, k, owner)
	} else {
		val := value.Number(int64(s.next(1000)))
		is.list = v.list.with(k, val)
		is.tree, e = treap.Put(s.x, v.tree, k, val, owner)
	}
	if e != api.OK {
		t.Fatalf("a change of %d keys returns %d", len(v.list), e)
	}
	if owner != 0 {
		s.all[i] = is
	} else {
		s.all = append(s.all, is)
	}
	if len(s.all) > 12 {
		i := s.next(len(s.all))
		s.x.Drop(s.all[i].tree.Root)
		s.all = slices.Delete(s.all, i, i+1)
	}
}

// P12.1, P12.2: through many changes, each version has the neighbours, ends and pages of its list.
func TestModel(t *testing.T) {
	each(t, func(t *testing.T, f family) {
		for first := range uint64(6) {
			next := random(first)
			s := &model{x: land(t, 5000), keys: f.make(3 + next(20*int(first)+5)), next: next, all: []version{{}}}
			for range 150 {
				s.change(t)
				v := s.all[next(len(s.all))]
				was := look(s.x)
				answers(t, s.x, v.tree, v.list, sought(few(ordered(s.keys))))
				unchanged(t, s.x, was)
			}
			for _, v := range s.all {
				s.x.Drop(v.tree.Root)
			}
			if s.x.Live() != 0 {
				t.Errorf("%d cells are live behind the last Drop", s.x.Live())
			}
		}
	})
}
