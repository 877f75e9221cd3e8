package hamt_test

import (
	"slices"
	"testing"

	"easement/api"
	"easement/hamt"
	"easement/value"
)

// P8.2: the empty map has no pairs, in any land.
func TestPairsOfNone(t *testing.T) {
	for _, x := range append(lacking(t), land(t, 5)) {
		for p := range x.Pairs(hamt.Map{}) {
			t.Errorf("the empty map has the pair %v", p)
		}
	}
}

// P8.2: great maps: all pairs, in the order of keys, in whatever order they were put.
func TestPairsOfMany(t *testing.T) {
	for _, f := range families() {
		t.Run(f.name, func(t *testing.T) {
			t.Parallel()
			l := f.make(t, 1024)
			in := slices.Clone(l)
			shuffle(in)
			x := land(t, 20000)
			m := hamt.Map{}
			want := numbered(l)
			for _, k := range in {
				m = then(t, x, m, 5)(x.Put(m, k, want[k], 5))
			}
			got := slices.Collect(x.Pairs(m))
			if len(got) != 1024 {
				t.Fatalf("there are %d pairs", len(got))
			}
			for i, p := range got {
				if p.Value != want[p.Key] {
					t.Fatalf("pair %d is %v, want the value %v", i, p, want[p.Key])
				}
				if i > 0 && order(x, got[i-1].Key, p.Key) != -1 {
					t.Fatalf("pair %d is %v, behind %v", i, p, got[i-1])
				}
			}
		})
	}
}

// P8.2: the order is that of the digits, the lowest level first, and, if all are equal, that of the values.
func TestOrder(t *testing.T) {
	x := land(t, 500)
	m := newMaker()
	same := []value.Value{m.key(t, base), m.key(t, base), m.key(t, base)}
	slices.SortFunc(same, value.Compare)
	want := []value.Value{
		m.key(t, 1<<63),      // level 0: 0
		m.key(t, 31<<5),      // level 1: 31
		m.key(t, 1),          // level 0: 1
		m.key(t, 1|1<<60),    // level 12: 1
		m.key(t, 1|15<<60),   // level 12: 15
		m.key(t, 1|1<<55),    // level 11: 1
		m.key(t, 1|1<<5),     // level 1: 1
		m.key(t, 2),          // level 0: 2
		m.key(t, base^1<<63), // level 0: 3, level 12: 5
		same[0],              // level 12: 13
		same[1],              // a greater value
		same[2],              // a greater one still
		m.key(t, 31|255<<56), // level 0: 31
		m.key(t, 31|1<<5),    // level 1: 1
		m.key(t, ^uint64(0)), // level 1: 31
	}
	v := hamt.Map{}
	for _, k := range slices.Backward(want) {
		v = then(t, x, v, 0)(x.Put(v, k, k, 0))
	}
	var got []value.Value
	for p := range x.Pairs(v) {
		got = append(got, p.Key)
	}
	if !slices.Equal(got, want) {
		t.Errorf("the keys come in another order")
	}
	drop(x, v)
	none(t, x)
}

// P8.2: the sequence ends at each pair at which yield returns false, and yield isn't called again.
func TestPairsEnd(t *testing.T) {
	for _, f := range families() {
		t.Run(f.name, func(t *testing.T) {
			t.Parallel()
			for _, n := range []int{1, 2, 3, 40, 70} {
				x := land(t, 1000)
				l := f.make(t, n)
				m := build(t, x, l, 0)
				was := look(x, 1000)
				want := pairs(x, numbered(l))
				for end := range n {
					var got []hamt.Pair
					x.Pairs(m)(func(p hamt.Pair) bool {
						got = append(got, p)
						return len(got) <= end
					})
					if !slices.Equal(got, want[:end+1]) {
						t.Fatalf("ended at pair %d of %d, there are %d", end, n, len(got))
					}
				}
				unchanged(t, x, was)
			}
		})
	}
}

// P8.2: a sequence may be gone through again, within itself too, and by a range that breaks.
func TestPairsAgain(t *testing.T) {
	x := land(t, 1000)
	l := everyLevel(t, 40)
	m := build(t, x, l, 0)
	want := pairs(x, numbered(l))
	all := x.Pairs(m)
	n := 0
	for p := range all {
		if p != want[n] {
			t.Fatalf("pair %d is %v, want %v", n, p, want[n])
		}
		inner := 0
		for q := range all {
			if q != want[inner] {
				t.Fatalf("within pair %d, pair %d is %v", n, inner, q)
			}
			if inner++; inner > n {
				break
			}
		}
		n++
	}
	if n != 40 || !slices.Equal(slices.Collect(all), want) {
		t.Errorf("there are %d pairs", n)
	}
}

// P8.2: other maps may be made and dropped while the pairs of one are gone through.
func TestPairsWhileOthersChange(t *testing.T) {
	x := land(t, 5000)
	l := fewHashes(t, 60)
	m := build(t, x, l, 5)
	other := m
	x.Keep(m.Root)
	var got []hamt.Pair
	for p := range x.Pairs(m) {
		got = append(got, p)
		other = then(t, x, other, 6)(x.Put(other, p.Key, value.Text("x"), 6))
		if len(got)%3 == 0 {
			other = then(t, x, other, 6)(x.Take(other, p.Key, 6))
		}
	}
	if !slices.Equal(got, pairs(x, numbered(l))) {
		t.Errorf("there are %d other pairs", len(got))
	}
	drop(x, other)
	drop(x, m)
	none(t, x)
}

// Nothing is done for a yield that can't be called; a panic of the caller's is the caller's.
func TestPairsYield(t *testing.T) {
	x := land(t, 50)
	m, e := x.Put(hamt.Map{}, value.Number(1), value.Number(2), 0)
	if e != api.OK {
		t.Fatal(e)
	}
	x.Pairs(m)(nil)
	defer func() {
		if recover() != "mine" {
			t.Error("the panic of yield is gone")
		}
	}()
	for range x.Pairs(m) {
		panic("mine")
	}
}
