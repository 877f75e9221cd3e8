package hset_test

import (
	"slices"
	"testing"

	"easement/api"
	"easement/hamt"
	"easement/hset"
	"easement/value"
)

// sequence is a sequence of values.
type sequence = func(yield func(value.Value) bool)

// wish is what is wanted, with a name.
type wish struct {
	name  string
	wants func(value.Value) bool
}

// all is what wants every value.
func all(value.Value) bool { return true }

// nothing is what wants no value.
func nothing(value.Value) bool { return false }

// wishes are those that are true of all values, of some, of one, of all but one, and of none.
func wishes(l []value.Value) []wish {
	one := value.Number(123456)
	if len(l) > 0 {
		one = l[len(l)/2]
	}
	return []wish{
		{"all", all},
		{"texts", func(v value.Value) bool { return v.Kind == value.Bytes }},
		{"one", func(v value.Value) bool { return v == one }},
		{"all but one", func(v value.Value) bool { return v != one }},
		{"none", nothing},
	}
}

// wanted are those of the values for which a function returns true.
func wanted(l []value.Value, wants func(value.Value) bool) []value.Value {
	return slices.DeleteFunc(slices.Clone(l), func(v value.Value) bool { return !wants(v) })
}

// P10.2: From of no sequence, and of empty ones, is the empty set: without room, and in a land that lacks a part, too.
func TestFromNothing(t *testing.T) {
	x := land(t, 1)
	fill(t, x, 0)
	was := look(x)
	empty := slices.Values([]value.Value{})
	for _, y := range append(lacking(x), x) {
		for _, wants := range []func(value.Value) bool{all, nothing} {
			for _, l := range [][]sequence{nil, {}, make([]sequence, 0, 5), {empty}, {empty, hset.Values(y, hset.Set{}), empty}} {
				if s := made(t)(hset.From(y, wants, l...)); s != (hset.Set{}) {
					t.Errorf("From of nothing returns %v", s)
				}
			}
		}
	}
	unchanged(t, x, was)
}

// P10.2: From of one sequence, with what is wanted of all, some or none of its values.
func TestFromOne(t *testing.T) {
	each(t, func(t *testing.T, x hamt.Land, s hset.Set, l []value.Value) {
		twice := append(slices.Clone(l), shuffled(l, 3)...)
		for _, w := range wishes(l) {
			for _, values := range []sequence{hset.Values(x, s), slices.Values(l), slices.Values(shuffled(l, 5)), slices.Values(twice)} {
				got := made(t)(hset.From(x, w.wants, values))
				has(t, x, got, wanted(l, w.wants))
				drop(x, got)
			}
		}
	})
}

// P10.2: From of several sequences that share values: each is in the set once.
func TestFromSeveral(t *testing.T) {
	each(t, func(t *testing.T, x hamt.Land, s hset.Set, l []value.Value) {
		third := len(l) / 3
		parts := []sequence{
			slices.Values(l[:2*third]),
			hset.Values(x, hset.Set{}),
			slices.Values(shuffled(l[third:], 9)),
			slices.Values(l[:third]),
			slices.Values(l[third : 2*third]),
			hset.Values(x, s),
		}
		for _, w := range wishes(l) {
			for n := 3; n <= len(parts); n++ {
				got := made(t)(hset.From(x, w.wants, parts[:n]...))
				has(t, x, got, wanted(l, w.wants))
				drop(x, got)
			}
			two := made(t)(hset.From(x, w.wants, parts[3], parts[4]))
			has(t, x, two, wanted(l[:2*third], w.wants))
			drop(x, two)
		}
	})
}

// P10.2: the same sequence several times is as once.
func TestFromOneSequenceTwice(t *testing.T) {
	each(t, func(t *testing.T, x hamt.Land, s hset.Set, l []value.Value) {
		values := hset.Values(x, s)
		got := made(t)(hset.From(x, all, values, values, values))
		has(t, x, got, l)
		drop(x, got)
	})
}

// P10.2: what is wanted is asked of each value that a sequence has, in their order.
func TestFromAsks(t *testing.T) {
	x := land(t, 300)
	l := mixed(t, 40)
	var asked []value.Value
	got := made(t)(hset.From(x, func(v value.Value) bool {
		asked = append(asked, v)
		return len(asked)%2 == 0
	}, slices.Values(l[:30]), slices.Values(l[20:])))
	want := append(slices.Clone(l[:30]), l[20:]...)
	if !slices.Equal(asked, want) {
		t.Errorf("From asks for %.200v", asked)
	}
	var even []value.Value
	for i := 1; i < len(want); i += 2 {
		even = append(even, want[i])
	}
	has(t, x, got, even)
}

// P10.2: 1024 values are a set, in whatever number of sequences, beside any that are not wanted; one more is ErrLong.
func TestFromMany(t *testing.T) {
	x := land(t, 5000)
	l := mixed(t, 1024)
	more := extra(30)
	texts := func(v value.Value) bool { return !slices.Contains(more, v) }
	for _, parts := range [][]sequence{
		{slices.Values(l)},
		{slices.Values(l[:1023]), slices.Values(l[1000:])},
		{slices.Values(l), slices.Values(shuffled(l, 4)), slices.Values(l[:1])},
	} {
		got := made(t)(hset.From(x, all, parts...))
		has(t, x, got, l)
		drop(x, got)
		got = made(t)(hset.From(x, texts, append(parts, slices.Values(more))...))
		has(t, x, got, l)
		drop(x, got)
		none(t, x)
		for _, n := range []int{1, 2, 30} {
			fails(t, api.ErrLong)(hset.From(x, all, append(parts, slices.Values(more[:n]))...))
			fails(t, api.ErrLong)(hset.From(x, all, append([]sequence{slices.Values(more[:n])}, parts...)...))
			none(t, x)
		}
	}
	for n := 1020; n <= 1030; n++ {
		s, e := hset.From(x, all, slices.Values(mixed(t, n)))
		if n <= 1024 {
			has(t, x, made(t)(s, e), mixed(t, n))
			drop(x, s)
			continue
		}
		fails(t, api.ErrLong)(s, e)
		none(t, x)
	}
}

// P10.2: behind an error no sequence goes on: those without an end have one here, too.
func TestFromEndsSequences(t *testing.T) {
	for most, want := range map[int]api.Errno{9000: api.ErrLong, 100: api.ErrFull, 1: api.ErrFull} {
		x := land(t, most)
		count := 0
		endless := func(yield func(value.Value) bool) {
			for yield(value.Number(int64(count))) {
				count++
			}
		}
		fails(t, want)(hset.From(x, all, endless, func(func(value.Value) bool) {
			t.Error("a sequence is asked for values behind an error")
		}))
		if want == api.ErrLong && count != 1024 {
			t.Errorf("the sequence was asked for %d values, want 1025", count+1)
		}
		none(t, x)
	}
}

// P10.2: in a land that lacks a part, the first value that is wanted is ErrArg, and none that is not.
func TestFromInLackingLands(t *testing.T) {
	x := land(t, 300)
	s := build(t, x, mixed(t, 30), 5)
	fill(t, x, 0)
	was := look(x)
	for _, y := range lacking(x) {
		count := 0
		fails(t, api.ErrArg)(hset.From(y, func(v value.Value) bool {
			count++
			return v == value.Number(2)
		}, slices.Values([]value.Value{value.Number(1), value.Number(2), value.Number(3)})))
		if count != 2 {
			t.Errorf("%d values were asked for", count)
		}
		if got := made(t)(hset.From(y, nothing, slices.Values(mixed(t, 9)))); got != (hset.Set{}) {
			t.Errorf("From of nothing that is wanted returns %v", got)
		}
	}
	noHash := hamt.Land{Arena: x.Arena}
	fails(t, api.ErrArg)(hset.Or(noHash, s, s))
	fails(t, api.ErrArg)(hset.Minus(noHash, s, hset.Set{}))
	unchanged(t, x, was)
}

// P10.2: the result has references of its own: whichever is dropped or changed first, the other one remains.
func TestFromHasItsOwnReferences(t *testing.T) {
	for _, f := range families(t) {
		for _, owner := range []uint32{0, 5, reserved} {
			x := land(t, 9000)
			s := build(t, x, f.l, owner)
			u, w := made(t)(hset.From(x, all, hset.Values(x, s))), made(t)(hset.From(x, all, hset.Values(x, s)))
			s = emptied(t, x, s, f.l, 5)
			has(t, x, u, f.l)
			drop(x, s, u)
			has(t, x, w, f.l)
			if x.Refs(w.Root) > 1 {
				t.Errorf("a set has %d references", x.Refs(w.Root))
			}
			drop(x, w)
			none(t, x)
		}
	}
}

// emptied takes up to nine of its values from a set, with an owner, and adds others instead.
func emptied(t *testing.T, x hamt.Land, s hset.Set, l []value.Value, owner uint32) hset.Set {
	t.Helper()
	for i, v := range extra(min(len(l), 9)) {
		s = made(t)(hset.Take(x, s, l[i], owner))
		s = made(t)(hset.Add(x, s, v, owner))
	}
	return s
}

// P10.2: a set that this layer made lasts, however many others it makes, of which some have the same cells' numbers.
func TestMadeSetsLast(t *testing.T) {
	x := land(t, 3000)
	l := mixed(t, 60)
	s := made(t)(hset.From(x, all, slices.Values(l)))
	longer := made(t)(hset.Add(x, s, extra(1)[0], 0))
	shorter := made(t)(hset.Take(x, s, l[7], 0))
	x.Keep(s.Root)
	was := look(x)
	for n := range 60 {
		one := made(t)(hset.From(x, all, slices.Values(l[n:]), slices.Values(extra(n))))
		two := made(t)(hset.Or(x, s, one))
		three := made(t)(hset.And(x, longer, two))
		four := made(t)(hset.Minus(x, two, shorter))
		has(t, x, four, append(extra(n), l[7]))
		drop(x, one, two, three, four)
	}
	unchanged(t, x, was)
	has(t, x, s, l)
	has(t, x, longer, append(slices.Clone(l), extra(1)[0]))
	has(t, x, shorter, slices.Delete(slices.Clone(l), 7, 8))
	drop(x, s, s, longer, shorter)
	none(t, x)
}

// The words of the chapter: no other owner than the reserved one may find cells of its own among those that this layer made.
func TestReservedOwner(t *testing.T) {
	x := land(t, 900)
	s := made(t)(hset.From(x, all, slices.Values(mixed(t, 80))))
	made(t)(hset.Or(x, s, s))
	made(t)(hset.And(x, s, s))
	made(t)(hset.Minus(x, s, hset.Set{}))
	for i := 1; i <= x.Live(); i++ {
		c, ok := x.Get(i)
		if !ok || c.Owner != 0 && c.Owner != reserved {
			t.Errorf("cell %d is held: %t, and has the owner %d", i, ok, c.Owner)
		}
	}
}
