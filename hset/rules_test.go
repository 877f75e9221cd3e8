package hset_test

import (
	"math"
	"runtime"
	"slices"
	"testing"

	"easement/api"
	"easement/arena"
	"easement/hamt"
	"easement/hash"
	"easement/hset"
	"easement/value"
)

// Rule 3: the list of sequences that From is handed, and what lies behind its length, is as it was; what lies there is not called.
func TestFromLeavesItsList(t *testing.T) {
	x := land(t, 300)
	calls := make([]int, 6)
	l := make([]sequence, 6)
	for i := range l {
		l[i] = func(yield func(value.Value) bool) {
			calls[i]++
			yield(value.Number(int64(i)))
		}
	}
	got := made(t)(hset.From(x, all, l[1:3]...))
	has(t, x, got, []value.Value{value.Number(1), value.Number(2)})
	if !slices.Equal(calls, []int{0, 1, 1, 0, 0, 0}) {
		t.Errorf("the sequences are called %v times", calls)
	}
	for _, values := range l {
		values(func(value.Value) bool { return true })
	}
	if !slices.Equal(calls, []int{1, 2, 2, 1, 1, 1}) {
		t.Errorf("the list has others than before: they are called %v times", calls)
	}
	drop(x, got)
	none(t, x)
}

// Rule 3: the sequences, and what is wanted, are not called any more behind the call, and the set doesn't change with them.
func TestFromKeepsNoFunction(t *testing.T) {
	x := land(t, 900)
	l := mixed(t, 30)
	kept := slices.Clone(l)
	over := false
	got := made(t)(hset.From(x, func(value.Value) bool {
		if over {
			t.Error("what is wanted is asked behind the call")
		}
		return true
	}, slices.Values(l)))
	over = true
	clear(l)
	has(t, x, got, kept)
	for _, v := range kept {
		if !hset.Has(x, got, v) {
			t.Errorf("%.80v is not in the set", v)
		}
	}
	again := made(t)(hset.Or(x, got, got))
	has(t, x, again, kept)
}

// Rule 3: with an owner of 0 the set that Add and Take are handed, and each of its cells, is as it was.
func TestArgumentsRemain(t *testing.T) {
	for _, f := range families(t) {
		for _, owner := range []uint32{0, 5, reserved} {
			x := land(t, 6000)
			s := build(t, x, f.l, owner)
			was := look(x)
			for i := range min(len(f.l), 3) {
				drop(x, made(t)(hset.Add(x, s, f.l[i], 0)))
				drop(x, made(t)(hset.Take(x, s, f.l[i], 0)))
				unchanged(t, x, was)
			}
			if len(f.l) < 1024 {
				drop(x, made(t)(hset.Add(x, s, extra(1)[0], 0)))
			}
			unchanged(t, x, was)
			has(t, x, s, f.l)
		}
	}
}

// What was kept of a set remains when it is changed by an owner, and when it is combined.
func TestKeptSetsRemain(t *testing.T) {
	x := land(t, 3000)
	l := mixed(t, 80)
	s := made(t)(hset.From(x, all, slices.Values(l)))
	x.Keep(s.Root)
	w := emptied(t, x, s, l, 5)
	has(t, x, s, l)
	has(t, x, w, append(slices.Clone(l[9:]), extra(9)...))
	u := made(t)(hset.Minus(x, w, s))
	has(t, x, u, extra(9))
	drop(x, s, w, u)
	none(t, x)
}

// Rule 3: what Values yielded stays as it is when the set is changed in place, and gone.
func TestValuesLast(t *testing.T) {
	x := land(t, 900)
	l := mixed(t, 50)
	s := build(t, x, l, 5)
	got := slices.Collect(hset.Values(x, s))
	s = emptied(t, x, s, l, 5)
	drop(x, s)
	if !slices.Equal(got, ordered(x, l)) {
		t.Error("the values are gone with their set")
	}
	none(t, x)
}

// P2: the same calls return the same, whatever is done in another arena between them, and with whatever hasher of the seed.
func TestSameCallsSameResults(t *testing.T) {
	l := mixed(t, 60)
	run := func(other hamt.Land, again bool) []hset.Set {
		x := land(t, 3000)
		sets := []hset.Set{{}, {}}
		for i := range 60 {
			if again {
				x.Hasher = hash.New(seed)
			}
			a, b := sets[len(sets)-1], sets[len(sets)-2]
			hset.From(other, all, slices.Values(l[:i]))
			u := made(t)(hset.Or(x, a, b))
			v := made(t)(hset.From(x, all, slices.Values(l[i/2:i])))
			w := made(t)(hset.Minus(x, v, u))
			drop(x, u)
			sets = append(sets, v, w, made(t)(hset.And(x, v, a)))
		}
		return sets
	}
	if !slices.Equal(run(hamt.Land{}, false), run(land(t, 900), true)) {
		t.Error("the same calls return other sets")
	}
}

// P2: the values that a set has don't depend on how it came to have them, nor on the numbers of its cells.
func TestSameContentSameValues(t *testing.T) {
	l := mixed(t, 300)
	x, y := land(t, 3000), land(t, 4000)
	for range 20 {
		y.Make(arena.Cell{})
	}
	want := slices.Collect(hset.Values(x, build(t, x, l, 0)))
	for first := range uint64(5) {
		parts := shuffled(l, first)
		a := made(t)(hset.From(y, all, slices.Values(parts[:200])))
		b := made(t)(hset.From(y, all, slices.Values(parts[100:])))
		s := made(t)(hset.Or(y, b, a))
		if got := slices.Collect(hset.Values(y, s)); !slices.Equal(got, want) || len(got) != 300 {
			t.Errorf("%d values come in another order", len(got))
		}
		drop(y, a, b, s)
	}
}

// P1: a panic of a function that was handed in stays inside: From returns ErrArg, no reference remains, and nothing has changed.
func TestFromOfWhatPanics(t *testing.T) {
	l := mixed(t, 30)
	halfway := func(yield func(value.Value) bool) {
		for _, v := range l[:20] {
			yield(v)
		}
		panic("halfway")
	}
	atOnce := func(func(value.Value) bool) { panic("at once") }
	heedless := func(yield func(value.Value) bool) {
		for _, v := range l {
			yield(v)
		}
	}
	for name, call := range map[string]func(x hamt.Land) (hset.Set, api.Errno){
		"a sequence halfway":   func(x hamt.Land) (hset.Set, api.Errno) { return hset.From(x, all, slices.Values(l), halfway) },
		"a sequence at once":   func(x hamt.Land) (hset.Set, api.Errno) { return hset.From(x, all, slices.Values(l), atOnce) },
		"no sequence":          func(x hamt.Land) (hset.Set, api.Errno) { return hset.From(x, all, slices.Values(l), nil) },
		"what is wanted":       func(x hamt.Land) (hset.Set, api.Errno) { return hset.From(x, late(20), slices.Values(l)) },
		"what is wanted first": func(x hamt.Land) (hset.Set, api.Errno) { return hset.From(x, late(0), slices.Values(l)) },
		"nothing to ask":       func(x hamt.Land) (hset.Set, api.Errno) { return hset.From(x, nil, slices.Values(l)) },
	} {
		t.Run(name, func(t *testing.T) {
			x := land(t, 900)
			s := build(t, x, l, 5)
			was := look(x)
			fails(t, api.ErrArg)(call(x))
			unchanged(t, x, was)
			drop(x, s)
			none(t, x)
		})
	}
	x := land(t, 3)
	if s, e := hset.From(x, all, heedless); s != (hset.Set{}) || e == api.OK {
		t.Errorf("From of a sequence that doesn't end when it should returns %v, %d", s, e)
	}
	none(t, x)
	if s := made(t)(hset.From(x, nil)); s != (hset.Set{}) {
		t.Errorf("From of nothing returns %v", s)
	}
}

// late is what wants so many values, and panics for the next one.
func late(n int) func(value.Value) bool {
	return func(value.Value) bool {
		n--
		if n < 0 {
			panic("late")
		}
		return true
	}
}

// No reference remains either when a function that was handed in ends its goroutine.
func TestFromOfWhatEnds(t *testing.T) {
	x := land(t, 900)
	over := make(chan bool)
	go func() {
		defer close(over)
		n := 0
		hset.From(x, func(value.Value) bool {
			if n++; n > 20 {
				runtime.Goexit()
			}
			return true
		}, slices.Values(mixed(t, 30)))
		t.Error("From returns")
	}()
	<-over
	none(t, x)
}

// A nil yield is one for which there is nothing to do.
func TestValuesWithoutYield(t *testing.T) {
	x := land(t, 300)
	hset.Values(x, build(t, x, mixed(t, 30), 5))(nil)
	hset.Values(x, hset.Set{})(nil)
}

// The functions that are handed in may make other sets, by this layer too, while From makes one.
func TestFromWithinFrom(t *testing.T) {
	x := land(t, 3000)
	l := mixed(t, 40)
	s := build(t, x, l[:30], 5)
	var inner []hset.Set
	got := made(t)(hset.From(x, func(v value.Value) bool {
		u := made(t)(hset.From(x, all, hset.Values(x, s), slices.Values([]value.Value{v})))
		w := made(t)(hset.Minus(x, u, s))
		inner = append(inner, w)
		drop(x, u)
		return w.N == 1
	}, slices.Values(l), hset.Values(x, s)))
	has(t, x, got, l[30:])
	for i, w := range inner {
		want := []value.Value{}
		if i >= 30 && i < 40 {
			want = l[i : i+1]
		}
		has(t, x, w, want)
	}
	drop(x, inner...)
	drop(x, got, s)
	none(t, x)
}

// No call panics, or fails to end, for what no call returned, or with a land for which it did not.
func TestStrangersDoNotPanic(t *testing.T) {
	x := land(t, 400)
	l := mixed(t, 30)
	full := build(t, x, l, 5)
	x.Make(arena.Cell{})
	x.Make(arena.Cell{A: math.MaxUint32, Kids: []int{1, 2}})
	x.Make(arena.Cell{B: 13, Vals: l[:3]})
	for _, y := range []hamt.Land{x, {}, {Arena: x.Arena}, {Hasher: x.Hasher}, {Arena: x.Arena, Hasher: hash.New(8)}} {
		for _, n := range []int{math.MinInt, -1, 0, 1, 1023, 1024, 1025, math.MaxInt} {
			for _, root := range []int{math.MinInt, -1, 0, 1, full.Root, x.Live() - 2, x.Live() - 1, x.Live(), 5000, math.MaxInt} {
				strange(y, hset.Set{Map: hamt.Map{N: n, Root: root}}, full)
			}
		}
	}
	has(t, x, full, l)
}

// strange makes every call for a set that no call returned, or not for this land, and drops what is made.
func strange(x hamt.Land, s, full hset.Set) {
	for _, v := range []value.Value{{}, value.Number(5), {Kind: 200, N: 3, S: "x"}, value.Text(string(make([]byte, 70000)))} {
		hset.Has(x, s, v)
		w, _ := hset.Add(x, s, v, 0)
		drop(x, w)
		w, _ = hset.Take(x, s, v, 0)
		drop(x, w)
		w, _ = hset.From(x, all, hset.Values(x, s), slices.Values([]value.Value{v}))
		drop(x, w)
	}
	for _, o := range operations() {
		for _, c := range [][2]hset.Set{{s, s}, {s, full}, {full, s}} {
			w, _ := o.do(x, c[0], c[1])
			drop(x, w)
		}
	}
}
