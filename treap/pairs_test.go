package treap_test

import (
	"slices"
	"testing"

	"easement/hamt"
	"easement/treap"
	"easement/value"
)

// P11.2: the empty tree has no pairs, in any land.
func TestPairsOfNone(t *testing.T) {
	x := land(t, 5)
	for _, y := range append(lacking(x), x) {
		for p := range treap.Pairs(y, treap.Tree{}) {
			t.Errorf("the empty tree has the pair %v", p)
		}
	}
}

// P11.2: great trees: all pairs, in increasing order of the keys, in whatever order they were put.
func TestPairsOfMany(t *testing.T) {
	each(t, func(t *testing.T, f family) {
		l := f.make(1024)
		want := numbered(l)
		for _, a := range arrangements() {
			x := land(t, 1024)
			tree := treap.Tree{}
			for _, k := range a.of(l) {
				tree = then(t, x, tree, 5)(treap.Put(x, tree, k, want[k], 5))
			}
			got := slices.Collect(treap.Pairs(x, tree))
			if len(got) != 1024 {
				t.Fatalf("there are %d pairs", len(got))
			}
			for i, p := range got {
				if p.Value != want[p.Key] {
					t.Fatalf("pair %d is %.80v, want the value %v", i, p, want[p.Key])
				}
				if i > 0 && value.Compare(got[i-1].Key, p.Key) != -1 {
					t.Fatalf("pair %d is %.80v, behind %.80v", i, p, got[i-1])
				}
			}
		}
	})
}

// P11.2: the keys come by kind, then by number, then byte by byte.
func TestOrder(t *testing.T) {
	want := []value.Value{
		{}, value.Truth(false), value.Truth(true), value.Number(-1 << 63), value.Number(-2), value.Number(-1), value.Number(0),
		value.Number(1), value.Number(300), value.Number(1<<63 - 1), value.Text(""), value.Text("\x00"), value.Text("\x00\x00"),
		value.Text("\x01"), value.Text("a"), value.Text("aa"), value.Text("ab"), value.Text("b"), value.Text("\xff"),
	}
	for first := range 20 {
		x := land(t, 60)
		in := slices.Clone(want)
		for range first {
			in = shuffled(in)
		}
		tree := build(t, x, in, 0)
		var got []value.Value
		for p := range treap.Pairs(x, tree) {
			got = append(got, p.Key)
		}
		if !slices.Equal(got, want) {
			t.Errorf("the keys come as %v", got)
		}
		drop(x, tree)
		none(t, x)
	}
}

// P11.2: the sequence ends at each pair at which yield returns false, and yield isn't called again.
func TestPairsEnd(t *testing.T) {
	each(t, func(t *testing.T, f family) {
		for _, n := range []int{1, 2, 3, 40, 70} {
			x := land(t, 200)
			l := f.make(n)
			tree := build(t, x, l, 0)
			was := look(x)
			want := numbered(l).pairs()
			for end := range n {
				var got []hamt.Pair
				treap.Pairs(x, tree)(func(p hamt.Pair) bool {
					got = append(got, p)
					return len(got) <= end
				})
				if !slices.Equal(got, want[:end+1]) {
					t.Fatalf("ended at pair %d of %d, there are %d", end, n, len(got))
				}
			}
			unchanged(t, x, was)
		}
	})
}

// P11.2: great trees, ended at the first pair, near a middle one, and at the last.
func TestPairsOfManyEnd(t *testing.T) {
	each(t, func(t *testing.T, f family) {
		x := land(t, 1024)
		l := f.make(1024)
		tree := build(t, x, l, 5)
		want := numbered(l).pairs()
		for _, end := range []int{0, 1, 511, 512, 1022, 1023} {
			var got []hamt.Pair
			for p := range treap.Pairs(x, tree) {
				got = append(got, p)
				if len(got) > end {
					break
				}
			}
			if !slices.Equal(got, want[:end+1]) {
				t.Errorf("ended at pair %d, there are %d", end, len(got))
			}
		}
	})
}

// P11.2: a sequence may be gone through again, within itself too.
func TestPairsAgain(t *testing.T) {
	x := land(t, 100)
	l := fewHashes(40)
	tree := build(t, x, l, 5)
	want := numbered(l).pairs()
	all := treap.Pairs(x, tree)
	n := 0
	for p := range all {
		if p != want[n] {
			t.Fatalf("pair %d is %v, want %v", n, p, want[n])
		}
		inner := 0
		for q := range all {
			if q != want[inner] {
				t.Fatalf("within pair %d, pair %d is %v", n, inner, q)
			}
			if inner++; inner > n {
				break
			}
		}
		n++
	}
	if n != 40 || !slices.Equal(slices.Collect(all), want) {
		t.Errorf("there are %d pairs", n)
	}
}

// P11.2: other trees may be made and dropped while the pairs of one are gone through.
func TestPairsWhileOthersChange(t *testing.T) {
	each(t, func(t *testing.T, f family) {
		x := land(t, 500)
		l := f.make(60)
		tree := build(t, x, l, 5)
		other := tree
		x.Keep(tree.Root)
		var got []hamt.Pair
		for p := range treap.Pairs(x, tree) {
			got = append(got, p)
			other = then(t, x, other, 6)(treap.Put(x, other, p.Key, value.Text("x"), 6))
			if len(got)%3 == 0 {
				other = then(t, x, other, 6)(treap.Take(x, other, p.Key, 6))
			}
		}
		if !slices.Equal(got, numbered(l).pairs()) {
			t.Errorf("there are %d other pairs", len(got))
		}
		drop(x, other, tree)
		none(t, x)
	})
}

// Nothing is done for a yield that can't be called; a panic of the caller's is the caller's.
func TestPairsYield(t *testing.T) {
	x := land(t, 50)
	tree := build(t, x, ordinary(3), 0)
	treap.Pairs(x, tree)(nil)
	defer func() {
		if recover() != "mine" {
			t.Error("the panic of yield is gone")
		}
	}()
	for range treap.Pairs(x, tree) {
		panic("mine")
	}
}
