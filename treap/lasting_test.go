package treap_test

import (
	"testing"

	"easement/api"
	"easement/hamt"
	"easement/treap"
	"easement/value"
)

// change is a change of a tree, with its content after it.
type change struct {
	name string
	do   func(x hamt.Land, tree treap.Tree, owner uint32) (treap.Tree, api.Errno)
	want content
}

// putting is the change that puts a pair into a tree.
func putting(name string, was content, k, v value.Value) change {
	return change{name, func(x hamt.Land, tree treap.Tree, owner uint32) (treap.Tree, api.Errno) {
		return treap.Put(x, tree, k, v, owner)
	}, was.with(k, v)}
}

// taking is the change that takes a key from a tree.
func taking(was content, k value.Value) change {
	return change{"Take", func(x hamt.Land, tree treap.Tree, owner uint32) (treap.Tree, api.Errno) {
		return treap.Take(x, tree, k, owner)
	}, was.without(k)}
}

// changes are those of a tree of the first n keys that have no error.
func changes(l []value.Value, n int) []change {
	was := numbered(l[:n])
	var out []change
	for _, k := range l[n:min(n+3, api.MaxItems)] {
		out = append(out, putting("Put of a new key", was, k, value.Text("new")))
	}
	last := -1
	for _, i := range []int{0, 1, 2, n / 2, n - 2, n - 1} {
		if i > last && i < n {
			last = i
			out = append(out, putting("Put of a key that is there", was, l[i], value.Text("other")), taking(was, l[i]))
		}
	}
	return out
}

// way is a way to change a tree: the owner that it was made with, how many
// references were kept, and the owner of the change.
type way struct {
	name   string
	maker  uint32
	kept   int
	editor uint32
}

// ways are all that the chapter of layer 8 names.
func ways() []way {
	return []way{
		{"without an owner", 0, 0, 0},
		{"without an owner, of an owner's cells", 5, 0, 0},
		{"without an owner, kept", 5, 2, 0},
		{"with the owner", 5, 0, 5},
		{"with the greatest owner", 1<<32 - 1, 0, 1<<32 - 1},
		{"with the owner, kept", 5, 1, 5},
		{"with the owner, kept twice", 5, 2, 5},
		{"with another owner", 5, 0, 6},
		{"with another owner, kept", 5, 1, 6},
		{"with an owner, of cells of none", 0, 0, 5},
		{"with an owner, of cells of none, kept", 0, 1, 5},
	}
}

// P11.1, P11.3: each change in each way: the result is what it should be, what was
// kept and what remains is as it was, and behind the last Drop no cell is live.
func TestEachChangeEachWay(t *testing.T) {
	each(t, func(t *testing.T, f family) {
		l := f.make(56)
		for _, n := range []int{0, 1, 2, 3, 4, 14, 50} {
			for _, c := range changes(l[:n+6], n) {
				for _, w := range ways() {
					changeOnce(t, c, w, l[:n+6], n)
				}
			}
		}
	})
}

// changeOnce makes one change of a tree of the first n keys, and drops all that there is then.
func changeOnce(t *testing.T, c change, w way, l []value.Value, n int) {
	t.Helper()
	x := land(t, 2*n+3)
	tree, was := build(t, x, l[:n], w.maker), numbered(l[:n])
	for range w.kept {
		x.Keep(tree.Root)
	}
	got, e := c.do(x, tree, w.editor)
	if e != api.OK {
		t.Fatalf("%s %s, of %d keys, returns %d", c.name, w.name, n, e)
	}
	has(t, x, got, c.want, l...)
	remain := w.kept
	if w.editor == 0 {
		remain++
	}
	for range remain {
		has(t, x, tree, was, l...)
		drop(x, tree)
	}
	has(t, x, got, c.want, l...)
	if x.Live() != got.N {
		t.Fatalf("%s %s: %d cells are live beside the %d of the tree", c.name, w.name, x.Live()-got.N, got.N)
	}
	drop(x, got)
	none(t, x)
}

// P11.3: the other way round, what was made is as it was when what it was made of is changed further, or dropped first.
func TestEachChangeThenChanged(t *testing.T) {
	each(t, func(t *testing.T, f family) {
		l := f.make(50)
		for _, n := range []int{0, 1, 2, 3, 14, 40} {
			for _, c := range changes(l[:n+4], n) {
				for _, d := range changes(l[:n+4], n) {
					x := land(t, 200)
					tree, was := build(t, x, l[:n], 0), numbered(l[:n])
					first := then(t, x, tree, 5)(c.do(x, tree, 0))
					second := then(t, x, tree, 5)(d.do(x, tree, 0))
					has(t, x, first, c.want)
					has(t, x, second, d.want)
					has(t, x, tree, was)
					drop(x, tree, second)
					has(t, x, first, c.want)
					drop(x, first)
					none(t, x)
				}
			}
		}
	})
}

// P11.3: what an owner changes again and again is never seen in the tree that Keep held.
func TestOwnerLeavesWhatWasKept(t *testing.T) {
	each(t, func(t *testing.T, f family) {
		l := shuffled(f.make(60))
		for _, n := range []int{1, 2, 3, 14, 30} {
			for _, maker := range []uint32{0, 5, 6} {
				x := land(t, 300)
				tree, was := build(t, x, l[:n], maker), numbered(l[:n])
				x.Keep(tree.Root)
				now, w := numbered(l[:n]), tree
				for i, k := range l[:2*n] {
					now[k] = value.Text("x")
					w = then(t, x, w, 5)(treap.Put(x, w, k, now[k], 5))
					if i%3 == 1 {
						delete(now, l[i-1])
						w = then(t, x, w, 5)(treap.Take(x, w, l[i-1], 5))
					}
					has(t, x, tree, was, l...)
					has(t, x, w, now, l...)
				}
				drop(x, w)
				has(t, x, tree, was, l...)
				drop(x, tree)
				none(t, x)
			}
		}
	})
}

// P11.3: all versions of a tree, each made of the one before, are what they were, whichever are dropped first.
func TestAllVersionsLast(t *testing.T) {
	each(t, func(t *testing.T, f family) {
		x := land(t, 60000)
		l := shuffled(f.make(120))
		versions, wants := []treap.Tree{{}}, []content{{}}
		add := func(want content) func(treap.Tree, api.Errno) {
			return func(tree treap.Tree, e api.Errno) {
				t.Helper()
				if e != api.OK {
					t.Fatalf("version %d: %d", len(versions), e)
				}
				versions, wants = append(versions, tree), append(wants, want)
			}
		}
		last := func() (treap.Tree, content) { return versions[len(versions)-1], wants[len(wants)-1] }
		next := random(9)
		for i, k := range l {
			tree, c := last()
			add(c.with(k, value.Number(int64(i))))(treap.Put(x, tree, k, value.Number(int64(i)), 0))
			tree, c = last()
			old := l[next(i+1)]
			add(c.with(old, value.Value{}))(treap.Put(x, tree, old, value.Value{}, 0))
		}
		for _, k := range shuffled(l) {
			tree, c := last()
			add(c.without(k))(treap.Take(x, tree, k, 0))
		}
		for i := 0; i < len(versions); i += 2 {
			drop(x, versions[i])
		}
		for i := 1; i < len(versions); i += 2 {
			has(t, x, versions[i], wants[i], l...)
			drop(x, versions[i])
		}
		none(t, x)
	})
}
