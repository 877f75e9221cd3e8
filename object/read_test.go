package object_test

import (
	"fmt"
	"math"
	"slices"
	"testing"

	"easement/api"
	"easement/hamt"
	"easement/object"
	"easement/value"
)

// reads checks what Read returns, twice.
func reads(t *testing.T, x hamt.Land, o object.Object, op object.Op, want []value.Value, fault api.Errno) {
	t.Helper()
	for range 2 {
		got, e := object.Read(x, o, op)
		if e != fault || !slices.Equal(got, want) || e != api.OK && len(got) > 0 {
			t.Fatalf("Read of the kind %d with %.200v returns %d, %.300v; want %d, %.300v", o.Kind, op, e, got, fault, want)
		}
	}
}

// readsAs checks that Read returns what the plain object has.
func readsAs(t *testing.T, x hamt.Land, o object.Object, p plain, op object.Op) {
	t.Helper()
	want, e := p.read(x, op)
	reads(t, x, o, op, want, e)
}

// small is a vector, map, set and sorted map of three each: the values "a", Nil and
// "c", or the keys 1, 5 and "k" with these values.
func small(t *testing.T, x hamt.Land) []object.Object {
	t.Helper()
	values := []value.Value{value.Text("a"), {}, value.Text("c")}
	l := []object.Object{build(t, x, plain{kind: 1, list: values}, 0)}
	for _, k := range kinds()[1:] {
		p := plain{kind: k, keys: map[value.Value]value.Value{}}
		for i, key := range []value.Value{value.Number(1), value.Number(5), value.Text("k")} {
			p.keys[key] = values[i]
		}
		l = append(l, build(t, x, p, 0))
	}
	return l
}

// P13.2: Count of each kind, whatever else the operation has.
func TestReadCount(t *testing.T) {
	each(t, func(t *testing.T, x hamt.Land, o object.Object, p plain) {
		want := []value.Value{value.Number(int64(p.len()))}
		for _, op := range []object.Op{{}, {Key: value.Value{Kind: 200}, Val: value.Text("x"), From: -1, N: 65}} {
			op.Code = object.Count
			reads(t, x, o, op, want, api.OK)
		}
	}, 0, 1, 2, 33, 200, 1023, 1024)
}

// P13.2: Get of each kind, edge by edge.
func TestReadGet(t *testing.T) {
	x := land(t, 100)
	l := small(t, x)
	was := look(x)
	a, none, c := []value.Value{value.Text("a")}, []value.Value{{}}, []value.Value{value.Text("c")}
	for _, w := range []struct {
		of   int
		key  value.Value
		want []value.Value
		e    api.Errno
	}{
		{0, value.Number(0), a, api.OK},
		{0, value.Number(1), none, api.OK},
		{0, value.Number(2), c, api.OK},
		{0, value.Number(-1), nil, api.ErrRange},
		{0, value.Number(3), nil, api.ErrRange},
		{0, value.Number(4), nil, api.ErrRange},
		{0, value.Number(1 << 32), nil, api.ErrRange},
		{0, value.Number(1<<32 + 1), nil, api.ErrRange},
		{0, value.Number(-1 << 32), nil, api.ErrRange},
		{0, value.Number(math.MaxInt64), nil, api.ErrRange},
		{0, value.Number(math.MinInt64), nil, api.ErrRange},
		{0, value.Value{}, nil, api.ErrKind},
		{0, value.Truth(false), nil, api.ErrKind},
		{0, value.Truth(true), nil, api.ErrKind},
		{0, value.Text(""), nil, api.ErrKind},
		{0, value.Text("1"), nil, api.ErrKind},
		{0, value.Text("a"), nil, api.ErrKind},
		{0, value.Value{Kind: 4}, nil, api.ErrKind},
		{0, value.Value{Kind: value.Nil, N: 9}, nil, api.ErrKind},
		{1, value.Number(1), a, api.OK},
		{1, value.Number(5), none, api.OK},
		{1, value.Text("k"), c, api.OK},
		{1, value.Number(0), nil, api.ErrNone},
		{1, value.Number(2), nil, api.ErrNone},
		{1, value.Number(-1), nil, api.ErrNone},
		{1, value.Text("a"), nil, api.ErrNone},
		{1, value.Value{}, nil, api.ErrNone},
		{1, value.Value{Kind: value.Int, N: 1, S: "x"}, nil, api.ErrNone},
		{2, value.Number(1), nil, api.ErrKind},
		{2, value.Number(0), nil, api.ErrKind},
		{2, value.Text("k"), nil, api.ErrKind},
		{2, value.Value{}, nil, api.ErrKind},
		{3, value.Number(1), a, api.OK},
		{3, value.Number(5), none, api.OK},
		{3, value.Text("k"), c, api.OK},
		{3, value.Number(0), nil, api.ErrNone},
		{3, value.Number(2), nil, api.ErrNone},
		{3, value.Number(-1), nil, api.ErrNone},
		{3, value.Text("a"), nil, api.ErrNone},
		{3, value.Value{}, nil, api.ErrNone},
		{3, value.Value{Kind: value.Int, N: 1, S: "x"}, nil, api.ErrNone},
	} {
		reads(t, x, l[w.of], object.Op{Code: object.Get, Key: w.key}, w.want, w.e)
		reads(t, x, l[w.of], object.Op{Code: object.Get, Key: w.key, Val: value.Text("x"), From: -1, N: 65}, w.want, w.e)
	}
	for i, e := range []api.Errno{api.ErrRange, api.ErrNone, api.ErrKind, api.ErrNone} {
		reads(t, x, object.Object{Kind: kinds()[i]}, object.Op{Code: object.Get, Key: value.Number(0)}, nil, e)
	}
	reads(t, x, object.Object{Kind: object.Vector}, object.Op{Code: object.Get, Key: value.Text("")}, nil, api.ErrKind)
	unchanged(t, x, was)
}

// P13.2: Has of each kind, edge by edge.
func TestReadHas(t *testing.T) {
	x := land(t, 100)
	l := small(t, x)
	was := look(x)
	yes, no := []value.Value{value.Truth(true)}, []value.Value{value.Truth(false)}
	for _, op := range []object.Op{{}, {Val: value.Text("x"), From: -1, N: 65}} {
		op.Code = object.Has
		for _, o := range l[1:] {
			for _, op.Key = range []value.Value{value.Number(1), value.Number(5), value.Text("k")} {
				reads(t, x, o, op, yes, api.OK)
				reads(t, x, object.Object{Kind: o.Kind}, op, no, api.OK)
				reads(t, x, l[0], op, nil, api.ErrKind)
			}
			for _, op.Key = range append(strays(), value.Value{}, value.Number(0), value.Number(2), value.Text("a"), value.Text(""), value.Truth(true)) {
				reads(t, x, o, op, no, api.OK)
				reads(t, x, object.Object{Kind: o.Kind}, op, no, api.OK)
				reads(t, x, l[0], op, nil, api.ErrKind)
			}
		}
		reads(t, x, object.Object{Kind: object.Vector}, op, nil, api.ErrKind)
	}
	unchanged(t, x, was)
}

// P13.2: pages of few entries, each edge of From and of N, by what they must be.
func TestReadPageOfThree(t *testing.T) {
	x := land(t, 100)
	l := small(t, x)
	all := map[object.Kind][][]value.Value{
		object.Vector: {{value.Text("a")}, {{}}, {value.Text("c")}},
		object.Map:    {{value.Number(1), value.Text("a")}, {value.Number(5), {}}, {value.Text("k"), value.Text("c")}},
		object.Set:    {{value.Number(1)}, {value.Number(5)}, {value.Text("k")}},
		object.Sorted: {{value.Number(1), value.Text("a")}, {value.Number(5), {}}, {value.Text("k"), value.Text("c")}},
	}
	for _, k := range kinds()[1:3] {
		slices.SortFunc(all[k], func(a, b []value.Value) int { return before(x, a[0], b[0]) })
	}
	was := look(x)
	for _, o := range l {
		for from := range 4 {
			for _, n := range []int{0, 1, 2, 3, 4, 63, 64} {
				want := slices.Concat(all[o.Kind][from:min(from+n, 3)]...)
				reads(t, x, o, object.Op{Code: object.Page, From: from, N: n}, want, api.OK)
				reads(t, x, o, object.Op{Code: object.Page, From: from, N: n, Key: value.Value{Kind: 200}, Val: value.Text("x")}, want, api.OK)
			}
		}
		for _, from := range []int{math.MinInt, -1 << 32, -2, -1, 4, 5, 64, 65, 1 << 32, math.MaxInt} {
			for _, n := range []int{0, 1, 3, 64} {
				reads(t, x, o, object.Op{Code: object.Page, From: from, N: n}, nil, api.ErrRange)
			}
		}
		for _, from := range []int{math.MinInt, -1, 0, 1, 2, 3, 4, math.MaxInt} {
			for _, n := range []int{math.MinInt, -1 << 32, -64, -1, 65, 66, 128, 1 << 32, 1<<32 + 1, math.MaxInt} {
				reads(t, x, o, object.Op{Code: object.Page, From: from, N: n}, nil, api.ErrArg)
			}
		}
	}
	unchanged(t, x, was)
}

// P13.2: pages of objects of less than a page, of just one, and of more.
func TestReadPage(t *testing.T) {
	each(t, func(t *testing.T, x hamt.Land, o object.Object, p plain) {
		was := look(x)
		for _, from := range []int{-1, 0, 1, 2, 30, p.len() / 2, p.len() - 65, p.len() - 64, p.len() - 63, p.len() - 1, p.len(), p.len() + 1} {
			for _, n := range []int{-1, 0, 1, 2, 31, 32, 33, 63, 64, 65} {
				readsAs(t, x, o, p, object.Op{Code: object.Page, From: from, N: n})
			}
		}
		unchanged(t, x, was)
	}, 0, 1, 2, 33, 63, 64, 65, 130, 1023, 1024)
}

// P13.2: pages of each size, one behind the other, are all that there is.
func TestReadAllPages(t *testing.T) {
	each(t, func(t *testing.T, x hamt.Land, o object.Object, p plain) {
		want := slices.Concat(p.entries(x)...)
		for _, n := range []int{1, 2, 7, 63, 64} {
			var got []value.Value
			for from := 0; from < p.len(); from += n {
				l, e := object.Read(x, o, object.Op{Code: object.Page, From: from, N: n})
				if e != api.OK {
					t.Fatalf("Page from %d returns %d", from, e)
				}
				got = append(got, l...)
			}
			if !slices.Equal(got, want) {
				t.Fatalf("the pages of %d are %.300v, want %.300v", n, got, want)
			}
		}
	}, 0, 1, 63, 64, 65, 128, 300)
}

// P13.2: Floor and Ceil of each kind, edge by edge.
func TestReadNear(t *testing.T) {
	x := land(t, 100)
	l := small(t, x)
	one := []value.Value{value.Number(1), value.Text("a")}
	five := []value.Value{value.Number(5), {}}
	k := []value.Value{value.Text("k"), value.Text("c")}
	was := look(x)
	for _, w := range []struct {
		key         value.Value
		floor, ceil []value.Value
	}{
		{value.Value{}, nil, one},
		{value.Truth(true), nil, one},
		{value.Number(math.MinInt64), nil, one},
		{value.Number(0), nil, one},
		{value.Number(1), one, one},
		{value.Value{Kind: value.Int, N: 1, S: "x"}, one, five},
		{value.Number(2), one, five},
		{value.Number(4), one, five},
		{value.Number(5), five, five},
		{value.Number(6), five, k},
		{value.Text(""), five, k},
		{value.Text("j\xff"), five, k},
		{value.Text("k"), k, k},
		{value.Text("k\x00"), k, nil},
		{value.Text("z"), k, nil},
		{value.Value{Kind: 4}, k, nil},
	} {
		for _, op := range []object.Op{{}, {Val: value.Text("x"), From: -1, N: 65}} {
			op.Key = w.key
			for i, want := range [][]value.Value{w.floor, w.ceil} {
				op.Code = []object.Code{object.Floor, object.Ceil}[i]
				e := api.OK
				if want == nil {
					e = api.ErrNone
				}
				reads(t, x, l[3], op, want, e)
				reads(t, x, object.Object{Kind: object.Sorted}, op, nil, api.ErrNone)
				for _, o := range l[:3] {
					reads(t, x, o, op, nil, api.ErrKind)
					reads(t, x, object.Object{Kind: o.Kind}, op, nil, api.ErrKind)
				}
			}
		}
	}
	unchanged(t, x, was)
}

// P13.2: with each code that does not read, and each that there is not, Read is ErrArg, whatever else the operation has.
func TestReadOtherCodes(t *testing.T) {
	x := land(t, 100)
	l := small(t, x)
	was := look(x)
	for c := range 256 {
		if c >= 1 && c <= 6 {
			continue
		}
		for _, o := range l {
			for _, op := range []object.Op{{}, {Key: value.Number(1), Val: value.Text("x"), From: 1, N: 1}, {Key: value.Text("k"), From: -1, N: 65}} {
				op.Code = object.Code(c)
				reads(t, x, o, op, nil, api.ErrArg)
				reads(t, x, object.Object{Kind: o.Kind}, op, nil, api.ErrArg)
			}
		}
	}
	unchanged(t, x, was)
}

// P13.2: each code on each kind, with all that may be sought: what Read returns is what a plain object has, and nothing changes.
func TestReadAsPlain(t *testing.T) {
	each(t, func(t *testing.T, x hamt.Land, o object.Object, p plain) {
		was := look(x)
		for i, k := range sought(p.len()) {
			for c := range 21 {
				readsAs(t, x, o, p, object.Op{Code: object.Code(c), Key: k, Val: value.Text("x"), From: i - 2, N: 7 * i % 66})
			}
		}
		unchanged(t, x, was)
	}, 0, 1, 2, 3, 17, 33, 64, 65, 150)
}

// P13.2: great objects, in arenas without any room.
func TestReadOfMany(t *testing.T) {
	each(t, func(t *testing.T, x hamt.Land, o object.Object, p plain) {
		cells := fill(t, x, 0)
		was := look(x)
		for i, k := range few(sought(p.len())) {
			for c := range 7 {
				readsAs(t, x, o, p, object.Op{Code: object.Code(c), Key: k, From: 50 * i, N: i})
			}
		}
		unchanged(t, x, was)
		for _, i := range cells {
			x.Drop(i)
		}
	}, 1023, 1024)
}

// P13.2: each key of a great object is there, and each position of a great vector.
func TestReadEachOfMany(t *testing.T) {
	x := land(t, 4000)
	for _, k := range kinds() {
		p := filled(k, 1024)
		o := build(t, x, p, 5)
		for i, v := range ordinary(1024) {
			switch k {
			case object.Vector:
				reads(t, x, o, object.Op{Code: object.Get, Key: value.Number(int64(i))}, []value.Value{v}, api.OK)
			case object.Set:
				reads(t, x, o, object.Op{Code: object.Has, Key: v}, []value.Value{value.Truth(true)}, api.OK)
			default:
				reads(t, x, o, object.Op{Code: object.Get, Key: v}, []value.Value{value.Number(int64(i))}, api.OK)
				reads(t, x, o, object.Op{Code: object.Has, Key: v}, []value.Value{value.Truth(true)}, api.OK)
			}
		}
		unhold(x, o)
	}
	none(t, x)
}

// What is no object of a kind that there is has nothing; no call panics. The codes decide first.
func TestReadOfNoKind(t *testing.T) {
	x := land(t, 100)
	l := small(t, x)
	was := look(x)
	for _, k := range noKinds() {
		o := object.Object{Kind: k, Vec: l[0].Vec, Map: l[1].Map, Set: l[2].Set, Tree: l[3].Tree}
		for _, o := range []object.Object{o, {Kind: k}} {
			t.Run(fmt.Sprintf("kind %d, Vec %v", k, o.Vec), func(t *testing.T) {
				for c := range 256 {
					op := object.Op{Code: object.Code(c), Key: value.Number(1), N: 9}
					if c < 1 || c > 6 {
						reads(t, x, o, op, nil, api.ErrArg)
					}
				}
				reads(t, x, o, object.Op{Code: object.Count}, []value.Value{value.Number(0)}, api.OK)
				reads(t, x, o, object.Op{Code: object.Get, Key: value.Number(1)}, nil, api.ErrNone)
				reads(t, x, o, object.Op{Code: object.Has, Key: value.Number(1)}, []value.Value{value.Truth(false)}, api.OK)
				reads(t, x, o, object.Op{Code: object.Page, N: 64}, nil, api.OK)
				reads(t, x, o, object.Op{Code: object.Page, N: 65, From: 1}, nil, api.ErrArg)
				reads(t, x, o, object.Op{Code: object.Page, N: 64, From: 1}, nil, api.ErrRange)
				reads(t, x, o, object.Op{Code: object.Floor, Key: value.Number(1)}, nil, api.ErrKind)
				reads(t, x, o, object.Op{Code: object.Ceil, Key: value.Number(1)}, nil, api.ErrKind)
			})
		}
	}
	unchanged(t, x, was)
}
