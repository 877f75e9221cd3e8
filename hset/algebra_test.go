package hset_test

import (
	"slices"
	"testing"

	"easement/api"
	"easement/hamt"
	"easement/hset"
	"easement/value"
)

// operation is Or, And or Minus, with what it must have of two lists.
type operation struct {
	name string
	do   func(x hamt.Land, a, b hset.Set) (hset.Set, api.Errno)
	want func(a, b []value.Value) []value.Value
}

// common are the values of a list that are in another one, or, if in is false, that are not.
func common(a, b []value.Value, in bool) []value.Value {
	inB := map[value.Value]bool{}
	for _, v := range b {
		inB[v] = true
	}
	return wanted(a, func(v value.Value) bool { return inB[v] == in })
}

// operations are all three.
func operations() []operation {
	return []operation{
		{"Or", hset.Or, func(a, b []value.Value) []value.Value { return append(slices.Clone(a), common(b, a, false)...) }},
		{"And", hset.And, func(a, b []value.Value) []value.Value { return common(a, b, true) }},
		{"Minus", hset.Minus, func(a, b []value.Value) []value.Value { return common(a, b, false) }},
	}
}

// couple is two lists of values, with a name.
type couple struct {
	name string
	a, b []value.Value
}

// couples are those that the operations are made with: empty ones, equal ones, those that share all, some or nothing.
func couples(t *testing.T) []couple {
	t.Helper()
	l, same := mixed(t, 1100), chained(t)
	return []couple{
		{"both empty", nil, nil},
		{"the first empty", nil, l[:20]},
		{"the second empty", l[:20], nil},
		{"one and the same", l[:1], l[:1]},
		{"one and another", l[:1], l[1:2]},
		{"equal", l[:40], l[:40]},
		{"equal, made in another order", l[:40], shuffled(l[:40], 2)},
		{"the same hashes shared in part", same[5:8], same[7:10]},
		{"the same hashes, none shared", same[5:7], same[7:10]},
		{"sharing nothing", l[:30], l[30:60]},
		{"sharing some", l[:40], l[25:60]},
		{"the first within the second", l[10:15], l[:50]},
		{"the second within the first", l[:50], l[10:15]},
		{"sharing one", l[:25], l[24:60]},
		{"all but one shared", l[1:60], l[:59]},
		{"great and equal", l[:1024], l[:1024]},
		{"great, the second within", l[:1024], l[:600]},
		{"great in sum", l[:512], l[512:1024]},
		{"great in sum, with some shared", l[:700], l[500:1024]},
	}
}

// P10.2: Or, And and Minus of all couples, whoever owns the cells: the results, and that both sets remain.
func TestOperations(t *testing.T) {
	for _, c := range couples(t) {
		for _, o := range operations() {
			for _, owner := range []uint32{0, 5, reserved, 1<<32 - 1} {
				x := land(t, 9000)
				a, b := build(t, x, c.a, owner), build(t, x, c.b, owner)
				was := look(x)
				got, e := o.do(x, a, b)
				if e != api.OK {
					t.Fatalf("%s of two sets, %s, returns %d", o.name, c.name, e)
				}
				has(t, x, got, o.want(c.a, c.b))
				drop(x, got)
				unchanged(t, x, was)
				again := made(t)(o.do(x, a, b))
				drop(x, a, b)
				has(t, x, again, o.want(c.a, c.b))
				drop(x, again)
				none(t, x)
			}
		}
	}
}

// P10.2: Or, And and Minus of a set with itself: the set, the set, and nothing.
func TestOperationsWithItself(t *testing.T) {
	each(t, func(t *testing.T, x hamt.Land, s hset.Set, l []value.Value) {
		was := look(x)
		for i, want := range [][]value.Value{l, l, nil} {
			got := made(t)(operations()[i].do(x, s, s))
			has(t, x, got, want)
			drop(x, got)
			unchanged(t, x, was)
		}
	})
}

// P10.2: versions that share cells, and sets that this layer made of one another.
func TestOperationsOfVersions(t *testing.T) {
	x := land(t, 3000)
	l := mixed(t, 100)
	s := made(t)(hset.From(x, all, slices.Values(l)))
	longer := made(t)(hset.Add(x, s, extra(1)[0], 0))
	shorter := made(t)(hset.Take(x, s, l[3], 0))
	was := look(x)
	for _, o := range operations() {
		for _, a := range []hset.Set{s, longer, shorter} {
			for _, b := range []hset.Set{s, longer, shorter} {
				got := made(t)(o.do(x, a, b))
				has(t, x, got, o.want(slices.Collect(hset.Values(x, a)), slices.Collect(hset.Values(x, b))))
				drop(x, got)
				unchanged(t, x, was)
			}
		}
	}
	drop(x, s, longer, shorter)
	none(t, x)
}

// P10.2: more than 1024 values in a or in b are ErrLong, and nothing changes; And and Minus of the same sets are none too many.
func TestOrOfTooMany(t *testing.T) {
	l := mixed(t, 2048)
	for _, from := range []int{1, 2, 500, 1024} {
		x := land(t, 9000)
		a, b := build(t, x, l[:1024], 5), build(t, x, l[from:from+1024], 5)
		was := look(x)
		fails(t, api.ErrLong)(hset.Or(x, a, b))
		fails(t, api.ErrLong)(hset.Or(x, b, a))
		unchanged(t, x, was)
		both, rest := made(t)(hset.And(x, a, b)), made(t)(hset.Minus(x, a, b))
		has(t, x, both, l[from:1024])
		has(t, x, rest, l[:from])
		drop(x, both, rest, a, b)
		none(t, x)
	}
}

// P10.2: without room what has a value is ErrFull, what has none is made, and nothing changes.
func TestOperationsWithoutRoom(t *testing.T) {
	for _, c := range couples(t) {
		for _, o := range operations() {
			x := land(t, 4500)
			a, b := build(t, x, c.a, 5), build(t, x, c.b, reserved)
			fill(t, x, 0)
			was := look(x)
			got, e := o.do(x, a, b)
			if len(o.want(c.a, c.b)) > 0 {
				fails(t, api.ErrFull)(got, e)
			} else if got != (hset.Set{}) || e != api.OK {
				t.Errorf("%s of two sets, %s, without room returns %v, %d", o.name, c.name, got, e)
			}
			unchanged(t, x, was)
		}
	}
}

// algebra is how sets are combined in a land, where each result is one that there is room for.
type algebra struct {
	t *testing.T
	x hamt.Land
}

func (g algebra) or(a, b hset.Set) hset.Set    { return made(g.t)(hset.Or(g.x, a, b)) }
func (g algebra) and(a, b hset.Set) hset.Set   { return made(g.t)(hset.And(g.x, a, b)) }
func (g algebra) minus(a, b hset.Set) hset.Set { return made(g.t)(hset.Minus(g.x, a, b)) }

// same checks that both sides of a law have the same values.
func (g algebra) same(law string, one, two hset.Set) {
	g.t.Helper()
	l, k := slices.Collect(hset.Values(g.x, one)), slices.Collect(hset.Values(g.x, two))
	if one.N != two.N || one.N != len(l) || !slices.Equal(l, k) {
		g.t.Errorf("%s: %d values on one side, %d on the other", law, len(l), len(k))
	}
}

// laws checks the laws of set algebra for three sets.
func (g algebra) laws(a, b, c hset.Set) {
	g.t.Helper()
	or, and, minus, empty := g.or, g.and, g.minus, hset.Set{}
	g.same("a or b = b or a", or(a, b), or(b, a))
	g.same("a and b = b and a", and(a, b), and(b, a))
	g.same("(a or b) or c = a or (b or c)", or(or(a, b), c), or(a, or(b, c)))
	g.same("(a and b) and c = a and (b and c)", and(and(a, b), c), and(a, and(b, c)))
	g.same("a and (b or c) = (a and b) or (a and c)", and(a, or(b, c)), or(and(a, b), and(a, c)))
	g.same("a or (b and c) = (a or b) and (a or c)", or(a, and(b, c)), and(or(a, b), or(a, c)))
	g.same("a minus (b or c) = (a minus b) and (a minus c)", minus(a, or(b, c)), and(minus(a, b), minus(a, c)))
	g.same("a minus (b and c) = (a minus b) or (a minus c)", minus(a, and(b, c)), or(minus(a, b), minus(a, c)))
	g.same("(a minus b) minus c = a minus (b or c)", minus(minus(a, b), c), minus(a, or(b, c)))
	g.same("(a or b) minus c = (a minus c) or (b minus c)", minus(or(a, b), c), or(minus(a, c), minus(b, c)))
	g.same("a and (b minus c) = (a and b) minus c", and(a, minus(b, c)), minus(and(a, b), c))
	g.same("a minus (a minus b) = a and b", minus(a, minus(a, b)), and(a, b))
	g.same("(a minus b) or (a and b) = a", or(minus(a, b), and(a, b)), a)
	g.same("(a minus b) and b is empty", and(minus(a, b), b), empty)
	g.same("(a minus b) or b = a or b", or(minus(a, b), b), or(a, b))
	g.same("a or (a and b) = a", or(a, and(a, b)), a)
	g.same("a and (a or b) = a", and(a, or(a, b)), a)
	g.same("a or a = a", or(a, a), a)
	g.same("a and a = a", and(a, a), a)
	g.same("a minus a is empty", minus(a, a), empty)
	g.same("a or nothing = a", or(a, empty), a)
	g.same("a and nothing is empty", and(a, empty), empty)
	g.same("a minus nothing = a", minus(a, empty), a)
	g.same("nothing minus a is empty", minus(empty, a), empty)
}

// P10.3: the laws of set algebra, for sets that share all, some or nothing.
func TestLaws(t *testing.T) {
	l := mixed(t, 90)
	for first := range uint64(64) {
		next := random(first)
		g := algebra{t, land(t, 1<<16)}
		sets := make([]hset.Set, 3)
		for i := range sets {
			part := shuffled(l, first*3+uint64(i))[:next(len(l)+1)]
			if first < 8 {
				part = wanted(l[:7], func(v value.Value) bool { return first>>i&1 == 1 || next(2) == 0 })
			}
			sets[i] = build(t, g.x, part, 5)
		}
		was := slices.Collect(hset.Values(g.x, sets[0]))
		g.laws(sets[0], sets[1], sets[2])
		has(t, g.x, sets[0], was)
	}
}

// P10.3: the laws, for each way in which three sets share values of one hash.
func TestLawsOfOneHash(t *testing.T) {
	l := chained(t)[5:8]
	for ways := range 1 << 9 {
		g := algebra{t, land(t, 3000)}
		sets := make([]hset.Set, 3)
		for i := range sets {
			var part []value.Value
			for j, v := range l {
				if ways>>(3*i+j)&1 == 1 {
					part = append(part, v)
				}
			}
			sets[i] = build(t, g.x, part, 0)
		}
		g.laws(sets[0], sets[1], sets[2])
	}
}
