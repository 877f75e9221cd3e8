package treap_test

import (
	"slices"
	"testing"

	"easement/api"
	"easement/hamt"
	"easement/treap"
	"easement/value"
)

// held is a tree with the content that it must have. With an owner it is changed
// in place; what is only kept beside that is read and dropped, as no other
// change may share the cells of an owner that is still used.
type held struct {
	tree  treap.Tree
	c     content
	owner uint32
	only  bool
}

// model has trees in one land, the keys that they may have, and the number of the last owner.
type model struct {
	x     hamt.Land
	keys  []value.Value
	hs    []held
	owner uint32
	next  func(below int) int
}

// after is what a tree is after a random change with its owner, and what its content must be then.
func (s *model) after(t *testing.T, h held) (treap.Tree, content, api.Errno) {
	k := s.keys[s.next(len(s.keys))]
	_, there := h.c[k]
	if s.next(3) == 0 || there && s.next(3) == 0 {
		tree, e := treap.Take(s.x, h.tree, k, h.owner)
		if (e == api.ErrNone) == there {
			t.Fatalf("Take returns %d, and the key is there: %t", e, there)
		}
		return tree, h.c.without(k), e
	}
	v := value.Number(int64(s.next(1 << 30)))
	tree, e := treap.Put(s.x, h.tree, k, v, h.owner)
	return tree, h.c.with(k, v), e
}

// step makes one random call, and returns whether the arena was too full for it.
func (s *model) step(t *testing.T) bool {
	i := s.next(len(s.hs))
	h := s.hs[i]
	switch kind := s.next(12); {
	case kind == 0 && len(s.hs) > 3 || len(s.hs) > 25:
		drop(s.x, h.tree)
		s.hs = slices.Delete(s.hs, i, i+1)
	case kind == 1 && h.owner == 0 && !h.only: // thaw
		s.x.Keep(h.tree.Root)
		s.owner++
		s.hs = append(s.hs, held{tree: h.tree, c: h.c, owner: s.owner})
	case kind == 2 && h.owner != 0: // freeze
		s.hs[i].owner = 0
	case kind == 3:
		s.x.Keep(h.tree.Root)
		s.hs = append(s.hs, held{tree: h.tree, c: h.c, only: true})
	case !h.only:
		tree, c, e := s.after(t, h)
		switch {
		case e != api.OK:
			return s.failed(t, h, tree, e)
		case h.owner == 0:
			s.hs = append(s.hs, held{tree: tree, c: c})
		default:
			s.hs[i].tree, s.hs[i].c = tree, c
		}
	}
	return false
}

// failed checks an error, and returns whether it is that of too little room.
func (s *model) failed(t *testing.T, h held, tree treap.Tree, e api.Errno) bool {
	t.Helper()
	full := e == api.ErrFull && s.x.Room() < h.tree.N+3
	if tree != (treap.Tree{}) || !full && e != api.ErrNone {
		t.Fatalf("a change of %d keys returns %v, %d, with room for %d cells", h.tree.N, tree, e, s.x.Room())
	}
	return full
}

// check checks that all trees are what they must be, and that no cell is live beside theirs.
func (s *model) check(t *testing.T) {
	t.Helper()
	var trees []treap.Tree
	for _, h := range s.hs {
		has(t, s.x, h.tree, h.c, s.keys...)
		trees = append(trees, h.tree)
	}
	if n := len(reached(s.x, trees...)); s.x.Live() != n {
		t.Fatalf("%d cells are live, and the trees have %d", s.x.Live(), n)
	}
}

// P11.1, P11.2, P11.3: through many calls all trees are what they must be; once all are dropped, no cell is live.
func TestModel(t *testing.T) {
	each(t, func(t *testing.T, f family) {
		full := 0
		for first := range uint64(10) {
			next := random(first)
			s := &model{x: land(t, 5+next(10+20*int(first))), keys: f.make(5 + next(60)), next: next}
			s.hs = []held{{c: content{}}}
			for i := range 1000 {
				if s.step(t) {
					full++
				}
				if i%40 == 0 {
					s.check(t)
				}
			}
			s.check(t)
			for _, h := range s.hs {
				drop(s.x, h.tree)
			}
			none(t, s.x)
		}
		if full == 0 {
			t.Error("no arena was ever too full")
		}
	})
}
