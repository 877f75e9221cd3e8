package slice_test

import (
	"slices"
	"testing"

	"easement/api"
	"easement/arena"
	"easement/pvec"
	"easement/slice"
	"easement/value"
)

// held is a vector with the values that it must have.
type held struct {
	v pvec.Vec
	l []value.Value
}

// model has vectors in one arena.
type model struct {
	a    *arena.Arena
	hs   []held
	next func(below int) int
}

// random returns numbers that follow from a first one alone.
func random(n uint64) func(below int) int {
	return func(below int) int {
		n = n*6364136223846793005 + 1442695040888963407
		return int(n >> 33 % uint64(below))
	}
}

// some is one of the vectors.
func (m *model) some() held { return m.hs[m.next(len(m.hs))] }

// join is what Join returns for some vectors, and what its values must be.
func (m *model) join() (pvec.Vec, []value.Value, api.Errno) {
	var vs []pvec.Vec
	var l []value.Value
	for range m.next(6) {
		h := m.some()
		vs, l = append(vs, h.v), append(l, h.l...)
	}
	v, e := slice.Join(m.a, vs...)
	return v, l, e
}

// another is what a call returns that makes a vector, and what its values must be.
func (m *model) another() (pvec.Vec, []value.Value, api.Errno) {
	h := m.some()
	n := len(h.l)
	switch m.next(5) {
	case 0:
		l := numbers(m.next(1<<30), m.next(300))
		v, e := slice.From(m.a, l...)
		return v, l, e
	case 1:
		from := m.next(n + 1)
		to := from + m.next(n-from+1)
		v, e := slice.Cut(m.a, h.v, from, to)
		return v, h.l[from:to], e
	case 2:
		x := value.Text("pushed")
		v, e := pvec.Push(m.a, h.v, x, 0)
		return v, append(slices.Clone(h.l), x), e
	case 3:
		if n > 0 {
			v, e := pvec.Pop(m.a, h.v, 0)
			return v, h.l[:n-1], e
		}
	}
	return m.join()
}

// agree holds all vectors against their values, and two of them against each other.
func (m *model) agree(t *testing.T) {
	t.Helper()
	for _, h := range m.hs {
		if got := slice.All(m.a, h.v); !slices.Equal(got, h.l) {
			t.Fatalf("All returns %d values that are not the %d of the list", len(got), len(h.l))
		}
		from, n := m.next(len(h.l)+2), m.next(66)
		got, e := slice.Page(m.a, h.v, from, n)
		want, f := wantPage(h.l, from, n)
		if !slices.Equal(got, want) || e != f {
			t.Fatalf("Page(%d, %d) of %d values returns %v, %d", from, n, len(h.l), got, e)
		}
		o := m.some()
		if got := slice.Compare(m.a, h.v, o.v); got != value.Lists(h.l, o.l) {
			t.Fatalf("Compare returns %d", got)
		}
	}
}

// P7.1, P7.2: through many calls all vectors are what plain lists are; once all are dropped, no cell is live.
func TestModel(t *testing.T) {
	seen := map[api.Errno]int{}
	for seed := range uint64(10) {
		next := random(seed)
		m := &model{a: room(t, 60+next(300)), next: next, hs: []held{{}}}
		for i := range 300 {
			v, l, e := m.another()
			seen[e]++
			switch {
			case e == api.OK:
				m.hs = append(m.hs, held{v, l})
			case v != (pvec.Vec{}), e != api.ErrFull && e != api.ErrLong, e == api.ErrLong && len(l) <= 1024:
				t.Fatalf("a call for %d values returns %v, %d", len(l), v, e)
			}
			if len(m.hs) > 12 || e == api.ErrFull && len(m.hs) > 1 {
				k := 1 + next(len(m.hs)-1)
				pvec.Drop(m.a, m.hs[k].v)
				m.hs = slices.Delete(m.hs, k, k+1)
			}
			if i%10 == 0 {
				m.agree(t)
			}
		}
		m.agree(t)
		for _, h := range m.hs {
			pvec.Drop(m.a, h.v)
		}
		none(t, m.a)
	}
	if seen[api.ErrFull] == 0 || seen[api.ErrLong] == 0 || seen[api.OK] == 0 {
		t.Errorf("the calls returned only %v", seen)
	}
}
