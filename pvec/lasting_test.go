package pvec_test

import (
	"slices"
	"testing"

	"easement/api"
	"easement/arena"
	"easement/pvec"
	"easement/value"
)

// change is a change of a vector, with what the values are after it.
type change struct {
	name string
	do   func(a *arena.Arena, v pvec.Vec, owner uint32) (pvec.Vec, api.Errno)
	want []value.Value
}

// changes are those of a vector with these values that have no error.
func changes(l []value.Value) []change {
	x := value.Text("other")
	var out []change
	if len(l) < api.MaxItems {
		out = append(out, change{"Push", func(a *arena.Arena, v pvec.Vec, owner uint32) (pvec.Vec, api.Errno) {
			return pvec.Push(a, v, x, owner)
		}, append(slices.Clone(l), x)})
	}
	if len(l) > 0 {
		out = append(out, change{"Pop", pvec.Pop, l[:len(l)-1]})
	}
	last := -1
	for _, i := range []int{0, 1, 31, 32, 33, len(l) / 2, len(l) - 33, len(l) - 32, len(l) - 2, len(l) - 1} {
		if i < 0 || i >= len(l) || i <= last {
			continue
		}
		last = i
		want := slices.Clone(l)
		want[i] = x
		out = append(out, change{"Set", func(a *arena.Arena, v pvec.Vec, owner uint32) (pvec.Vec, api.Errno) {
			return pvec.Set(a, v, i, x, owner)
		}, want})
	}
	return out
}

// way is a way to change a vector: the owner that it was made with, whether Keep
// added references to it, and the owner of the change.
type way struct {
	name   string
	maker  uint32
	kept   int
	editor uint32
}

// ways are all that the chapter names.
func ways() []way {
	return []way{
		{"without an owner", 0, 0, 0},
		{"without an owner, of an owner's cells", 5, 0, 0},
		{"without an owner, kept", 5, 2, 0},
		{"with the owner", 5, 0, 5},
		{"with the greatest owner", 1<<32 - 1, 0, 1<<32 - 1},
		{"with the owner, kept", 5, 1, 5},
		{"with the owner, kept twice", 5, 2, 5},
		{"with another owner", 5, 0, 6},
		{"with another owner, kept", 5, 1, 6},
		{"with an owner, of cells of none", 0, 0, 5},
		{"with an owner, of cells of none, kept", 0, 1, 5},
	}
}

// P6.2, P6.3: each change in each way: the result is what it should be, what was
// kept and what remains is as it was, and behind the last Drop no cell is live.
func TestEachChangeEachWay(t *testing.T) {
	for _, w := range ways() {
		t.Run(w.name, func(t *testing.T) {
			t.Parallel()
			for _, n := range lengths() {
				l := numbers(1, n)
				for _, c := range changes(l) {
					changeOnce(t, c, w, l)
				}
			}
		})
	}
}

// changeOnce makes one change of a vector with these values, and drops all that there is then.
func changeOnce(t *testing.T, c change, w way, l []value.Value) {
	t.Helper()
	a := room(t, 200)
	v := build(t, a, l, w.maker)
	for range w.kept {
		pvec.Keep(a, v)
	}
	got, e := c.do(a, v, w.editor)
	if e != api.OK {
		t.Fatalf("%s of %d values returns %d", c.name, len(l), e)
	}
	has(t, a, got, c.want)
	remain := w.kept
	if w.editor == 0 {
		remain++
	}
	for range remain {
		has(t, a, v, l)
		pvec.Drop(a, v)
	}
	has(t, a, got, c.want)
	few(t, a, got.N)
	pvec.Drop(a, got)
	if a.Live() != 0 {
		t.Fatalf("%s of %d values: %d cells are live behind the last Drop", c.name, len(l), a.Live())
	}
}

// P6.3: the other way round, what was made is as it was when what it was made of is changed further, or dropped first.
func TestEachChangeThenChanged(t *testing.T) {
	for _, n := range someLengths() {
		l := numbers(1, n)
		for _, c := range changes(l) {
			for _, d := range changes(l) {
				a := room(t, 300)
				v := build(t, a, l, 0)
				first, e := c.do(a, v, 0)
				second, f := d.do(a, v, 0)
				if e != api.OK || f != api.OK {
					t.Fatalf("two changes of %d values return %d and %d", n, e, f)
				}
				has(t, a, first, c.want)
				has(t, a, second, d.want)
				has(t, a, v, l)
				pvec.Drop(a, v)
				pvec.Drop(a, second)
				has(t, a, first, c.want)
				pvec.Drop(a, first)
				none(t, a)
			}
		}
	}
}

// P6.3: what an owner changes again and again is never seen in the vector that Keep held.
func TestOwnerLeavesWhatWasKept(t *testing.T) {
	for _, n := range []int{1, 2, 31, 32, 33, 64, 65, 97, 130} {
		for _, maker := range []uint32{0, 5, 6} {
			a := room(t, 200)
			l := numbers(1, n)
			v := build(t, a, l, maker)
			pvec.Keep(a, v)
			now := slices.Clone(l)
			w := v
			for i := range n {
				now[i] = value.Number(int64(-i))
				w = then(t, a, w, 5)(pvec.Set(a, w, i, now[i], 5))
				has(t, a, v, l)
				has(t, a, w, now)
			}
			for len(now) > n/2 {
				w = then(t, a, w, 5)(pvec.Pop(a, w, 5))
				now = now[:len(now)-1]
				has(t, a, v, l)
				has(t, a, w, now)
			}
			for range n {
				x := value.Text("x")
				w = then(t, a, w, 5)(pvec.Push(a, w, x, 5))
				now = append(now, x)
				has(t, a, v, l)
			}
			has(t, a, w, now)
			pvec.Drop(a, w)
			has(t, a, v, l)
			pvec.Drop(a, v)
			none(t, a)
		}
	}
}

// P6.3, rule 3: a value that a shorter vector gets is not one of the longer ones
// that share its cells, and what lies behind a vector's length is not read.
func TestBehindTheLength(t *testing.T) {
	a := room(t, 1<<15)
	for _, n := range lengths()[1:] {
		for _, by := range []int{1, 2, 33} {
			l := numbers(1, n)
			v := build(t, a, l, 0)
			short := v
			pvec.Keep(a, short)
			for range min(by, n) {
				short = then(t, a, short, 0)(pvec.Pop(a, short, 0))
			}
			want := slices.Clone(l[:short.N])
			has(t, a, short, want)
			fails(t, api.ErrRange)(pvec.Set(a, short, short.N, value.Number(0), 0))
			for range by {
				short = then(t, a, short, 0)(pvec.Push(a, short, value.Text("new"), 0))
				want = append(want, value.Text("new"))
				if len(want) == api.MaxItems {
					break
				}
			}
			has(t, a, short, want)
			has(t, a, v, l)
			pvec.Drop(a, short)
			pvec.Drop(a, v)
			none(t, a)
		}
	}
}

// P6.3: all versions of a vector, each made of the one before, are what they were.
func TestAllVersionsLast(t *testing.T) {
	a := room(t, 1<<16)
	l := numbers(1, 1024)
	vs := []pvec.Vec{{}}
	for i := range l {
		v, e := pvec.Push(a, vs[i], l[i], 0)
		if e != api.OK {
			t.Fatal(e)
		}
		vs = append(vs, v)
	}
	down := vs[1024]
	pvec.Keep(a, down)
	for range 1024 {
		down = then(t, a, down, 0)(pvec.Pop(a, down, 0))
	}
	for n, v := range vs {
		if n%7 == 0 || n%32 < 2 || n%32 == 31 {
			has(t, a, v, l[:n])
		}
	}
	for n := range vs {
		pvec.Drop(a, vs[n])
	}
	none(t, a)
}

// The words of the chapter: with its owner a vector whose cells have no other reference is changed in place, without room.
func TestOwnerNeedsNoRoom(t *testing.T) {
	for _, n := range []int{2, 31, 34, 64, 65, 1000} {
		l := numbers(1, n)
		a := room(t, 100)
		v := build(t, a, l, 5)
		fill(t, a, 0)
		for _, i := range []int{0, n / 2, n - 1} {
			l[i] = value.Truth(true)
			v = then(t, a, v, 5)(pvec.Set(a, v, i, l[i], 5))
		}
		has(t, a, v, l)
		fails(t, api.ErrFull)(pvec.Set(a, v, n-1, value.Number(0), 6))
		fails(t, api.ErrFull)(pvec.Set(a, v, 0, value.Number(0), 0))
		has(t, a, v, l)
	}
}
