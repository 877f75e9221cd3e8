package object_test

import (
	"math"
	"testing"

	"easement/api"
	"easement/hamt"
	"easement/object"
	"easement/value"
)

// owners are some with which an object that the owner 5 made is changed.
func owners() []uint32 { return []uint32{0, 5, 6, 1<<32 - 3} }

// fails checks that a call returned an error, and nothing beside it.
func fails(t *testing.T, want api.Errno) func(object.Object, api.Errno) {
	return func(o object.Object, e api.Errno) {
		t.Helper()
		if o != (object.Object{}) || e != want {
			t.Fatalf("the call returns %v, %d; want %d", o, e, want)
		}
	}
}

// refuses checks that Write returns an error, with each owner, and changes nothing.
func refuses(t *testing.T, x hamt.Land, o object.Object, op object.Op, want api.Errno) {
	t.Helper()
	was := look(x)
	for _, owner := range owners() {
		fails(t, want)(object.Write(x, o, op, owner))
	}
	unchanged(t, x, was)
}

// makes checks that Write without an owner makes what it must, or refuses, and that the object remains.
func makes(t *testing.T, x hamt.Land, o object.Object, p plain, op object.Op) {
	t.Helper()
	want, e := p.write(op)
	if e != api.OK {
		refuses(t, x, o, op, e)
		return
	}
	live := x.Live()
	made, e := object.Write(x, o, op, 0)
	if e != api.OK {
		t.Fatalf("Write of the kind %d with %.200v returns %d", o.Kind, op, e)
	}
	has(t, x, made, want)
	has(t, x, o, p)
	unhold(x, made)
	has(t, x, o, p)
	if x.Live() != live {
		t.Fatalf("Write with %.200v leaves %d cells", op, x.Live()-live)
	}
}

// P13.3: Write with each code on a vector, edge by edge.
func TestWriteVector(t *testing.T) {
	a, b, c, d := value.Text("a"), value.Value{}, value.Text("c"), value.Text("d")
	var no []value.Value
	for _, w := range []struct {
		was  []value.Value
		op   object.Op
		want []value.Value
		e    api.Errno
	}{
		{no, object.Op{Code: object.Push, Val: a}, []value.Value{a}, api.OK},
		{[]value.Value{a, b, c}, object.Op{Code: object.Push, Val: d}, []value.Value{a, b, c, d}, api.OK},
		{[]value.Value{a, b, c}, object.Op{Code: object.Push, Key: d}, []value.Value{a, b, c, b}, api.OK},
		{[]value.Value{a, b, c}, object.Op{Code: object.Push, Key: value.Number(-1), Val: d, From: -1, N: 65}, []value.Value{a, b, c, d}, api.OK},
		{no, object.Op{Code: object.Pop}, nil, api.ErrRange},
		{[]value.Value{a}, object.Op{Code: object.Pop}, no, api.OK},
		{[]value.Value{a, b, c}, object.Op{Code: object.Pop}, []value.Value{a, b}, api.OK},
		{[]value.Value{a, b, c}, object.Op{Code: object.Pop, Key: value.Number(0), Val: d, From: -1, N: 65}, []value.Value{a, b}, api.OK},
		{[]value.Value{a, b, c}, object.Op{Code: object.Put, Key: value.Number(0), Val: d}, []value.Value{d, b, c}, api.OK},
		{[]value.Value{a, b, c}, object.Op{Code: object.Put, Key: value.Number(1), Val: d}, []value.Value{a, d, c}, api.OK},
		{[]value.Value{a, b, c}, object.Op{Code: object.Put, Key: value.Number(2), Val: d, From: -1, N: 65}, []value.Value{a, b, d}, api.OK},
		{[]value.Value{a, b, c}, object.Op{Code: object.Put, Key: value.Number(2)}, []value.Value{a, b, b}, api.OK},
		{[]value.Value{a, b, c}, object.Op{Code: object.Put, Key: value.Number(-1), Val: d}, nil, api.ErrRange},
		{[]value.Value{a, b, c}, object.Op{Code: object.Put, Key: value.Number(3), Val: d}, nil, api.ErrRange},
		{[]value.Value{a, b, c}, object.Op{Code: object.Put, Key: value.Number(1 << 32), Val: d}, nil, api.ErrRange},
		{[]value.Value{a, b, c}, object.Op{Code: object.Put, Key: value.Number(math.MaxInt64), Val: d}, nil, api.ErrRange},
		{[]value.Value{a, b, c}, object.Op{Code: object.Put, Key: value.Number(math.MinInt64), Val: d}, nil, api.ErrRange},
		{no, object.Op{Code: object.Put, Key: value.Number(0), Val: d}, nil, api.ErrRange},
		{[]value.Value{a, b, c}, object.Op{Code: object.Put, Val: d}, nil, api.ErrKind},
		{[]value.Value{a, b, c}, object.Op{Code: object.Put, Key: value.Truth(true), Val: d}, nil, api.ErrKind},
		{[]value.Value{a, b, c}, object.Op{Code: object.Put, Key: value.Text("1"), Val: d}, nil, api.ErrKind},
		{[]value.Value{a, b, c}, object.Op{Code: object.Put, Key: value.Text(""), Val: d}, nil, api.ErrKind},
		{no, object.Op{Code: object.Put, Key: value.Text(""), Val: d}, nil, api.ErrKind},
		{[]value.Value{a, b, c}, object.Op{Code: object.Take, Key: value.Number(1)}, nil, api.ErrKind},
		{[]value.Value{a, b, c}, object.Op{Code: object.Take, Key: value.Number(-1)}, nil, api.ErrKind},
		{[]value.Value{a, b, c}, object.Op{Code: object.Take, Key: a}, nil, api.ErrKind},
		{no, object.Op{Code: object.Take, Key: a}, nil, api.ErrKind},
	} {
		writes(t, plain{kind: 1, list: w.was}, plain{kind: 1, list: w.want}, w.op, w.e)
	}
}

// P13.3: Write with each code on the kinds that have keys, edge by edge.
func TestWriteKeys(t *testing.T) {
	one, k, two, a, c, d := value.Number(1), value.Text("k"), value.Number(2), value.Text("a"), value.Text("c"), value.Text("d")
	type content map[value.Value]value.Value
	for _, w := range []struct {
		was  content
		op   object.Op
		want content
		e    api.Errno
	}{
		{content{one: a, k: c}, object.Op{Code: object.Push, Val: d}, nil, api.ErrKind},
		{content{one: a, k: c}, object.Op{Code: object.Push, Key: two, Val: d}, nil, api.ErrKind},
		{content{}, object.Op{Code: object.Push, Val: d}, nil, api.ErrKind},
		{content{one: a, k: c}, object.Op{Code: object.Pop}, nil, api.ErrKind},
		{content{one: a, k: c}, object.Op{Code: object.Pop, Key: one}, nil, api.ErrKind},
		{content{}, object.Op{Code: object.Pop}, nil, api.ErrKind},
		{content{}, object.Op{Code: object.Put, Key: two, Val: d}, content{two: d}, api.OK},
		{content{}, object.Op{Code: object.Put}, content{{}: {}}, api.OK},
		{content{one: a, k: c}, object.Op{Code: object.Put, Key: two, Val: d}, content{one: a, k: c, two: d}, api.OK},
		{content{one: a, k: c}, object.Op{Code: object.Put, Key: two, Val: d, From: -1, N: 65}, content{one: a, k: c, two: d}, api.OK},
		{content{one: a, k: c}, object.Op{Code: object.Put, Key: value.Number(-1)}, content{one: a, k: c, value.Number(-1): {}}, api.OK},
		{content{one: a, k: c}, object.Op{Code: object.Put, Key: one, Val: d}, content{one: d, k: c}, api.OK},
		{content{one: a, k: c}, object.Op{Code: object.Put, Key: k, Val: d}, content{one: a, k: d}, api.OK},
		{content{one: a, k: c}, object.Op{Code: object.Put, Key: k}, content{one: a, k: {}}, api.OK},
		{content{one: a, k: c}, object.Op{Code: object.Take, Key: one}, content{k: c}, api.OK},
		{content{one: a, k: c}, object.Op{Code: object.Take, Key: k, Val: d, From: -1, N: 65}, content{one: a}, api.OK},
		{content{one: a}, object.Op{Code: object.Take, Key: one}, content{}, api.OK},
		{content{one: a, k: c}, object.Op{Code: object.Take, Key: two}, nil, api.ErrNone},
		{content{one: a, k: c}, object.Op{Code: object.Take, Key: a}, nil, api.ErrNone},
		{content{one: a, k: c}, object.Op{Code: object.Take, Key: value.Value{Kind: value.Int, N: 1, S: "x"}}, nil, api.ErrNone},
		{content{}, object.Op{Code: object.Take, Key: one}, nil, api.ErrNone},
		{content{}, object.Op{Code: object.Take}, nil, api.ErrNone},
	} {
		for _, kind := range kinds()[1:] {
			was, want := plain{kind: kind, keys: content{}}, plain{kind: kind, keys: content{}}
			for key, v := range w.was {
				was.keys[key] = v
			}
			for key, v := range w.want {
				want.keys[key] = v
			}
			if kind == object.Set {
				for key := range was.keys {
					was.keys[key] = value.Value{}
				}
				for key := range want.keys {
					want.keys[key] = value.Value{}
				}
			}
			writes(t, was, want, w.op, w.e)
		}
	}
}

// writes checks what Write makes of an object, with each owner, and that nothing is lost.
func writes(t *testing.T, was, want plain, op object.Op, fault api.Errno) {
	t.Helper()
	for _, owner := range owners() {
		x := land(t, 100)
		o := build(t, x, was, 5)
		made, e := object.Write(x, o, op, owner)
		switch {
		case fault != api.OK:
			fails(t, fault)(made, e)
		case e != api.OK:
			t.Fatalf("Write of the kind %d with %v returns %d", o.Kind, op, e)
		default:
			has(t, x, made, want)
			unhold(x, made)
		}
		if owner == 0 || fault != api.OK {
			has(t, x, o, was)
			unhold(x, o)
		}
		none(t, x)
	}
}

// P13.3: with each code that does not change, and each that there is not, Write is ErrArg, whatever else the operation has.
func TestWriteOtherCodes(t *testing.T) {
	x := land(t, 100)
	l := small(t, x)
	was := look(x)
	for c := range 256 {
		op := object.Op{Code: object.Code(c), Key: value.Number(1), Val: value.Text("x"), N: 1}
		if c >= 16 && c <= 19 {
			continue
		}
		for _, o := range l {
			for _, owner := range owners() {
				fails(t, api.ErrArg)(object.Write(x, o, op, owner))
				fails(t, api.ErrArg)(object.Write(x, o, object.Op{Code: op.Code}, owner))
				fails(t, api.ErrArg)(object.Write(x, object.Object{Kind: o.Kind}, op, owner))
			}
		}
	}
	unchanged(t, x, was)
}

// What is no object of a kind that there is can't be changed: the code decides first, and then the kind.
func TestWriteOfNoKind(t *testing.T) {
	x := land(t, 100)
	l := small(t, x)
	for _, k := range noKinds() {
		o := object.Object{Kind: k, Vec: l[0].Vec, Map: l[1].Map, Set: l[2].Set, Tree: l[3].Tree}
		for c := range 256 {
			op := object.Op{Code: object.Code(c), Key: value.Number(1), Val: value.Text("x")}
			want := api.ErrArg
			if op.Changes() {
				want = api.ErrKind
			}
			fails(t, want)(object.Write(x, o, op, 5))
			fails(t, want)(object.Write(x, object.Object{Kind: k}, op, 0))
		}
		was := look(x)
		object.Keep(x, o)
		object.Drop(x, o)
		object.Drop(x, o)
		unchanged(t, x, was)
	}
}

// P13.3: with 1023 values or keys there may be one more, and with 1024 none.
func TestWriteWhereAnObjectIsGreat(t *testing.T) {
	each(t, func(t *testing.T, x hamt.Land, o object.Object, p plain) {
		for _, k := range []value.Value{extra(1)[0], ordinary(1)[0], ordinary(1023)[1022], ordinary(1024)[1023], value.Number(1023), value.Number(1022), value.Number(1024)} {
			for c := range 21 {
				makes(t, x, o, p, object.Op{Code: object.Code(c), Key: k, Val: value.Text("x")})
			}
		}
	}, 1022, 1023, 1024)
}

// P13.3: a great object has no more values or keys: the error is ErrLong, with each owner and without room too.
func TestWriteTooMany(t *testing.T) {
	each(t, func(t *testing.T, x hamt.Land, o object.Object, p plain) {
		op := object.Op{Code: object.Put, Key: extra(1)[0], Val: value.Text("x")}
		if o.Kind == object.Vector {
			op.Code = object.Push
		}
		refuses(t, x, o, op, api.ErrLong)
		cells := fill(t, x, 0)
		refuses(t, x, o, op, api.ErrLong)
		for _, i := range cells {
			x.Drop(i)
		}
	}, 1024)
}

// P13.3: each code on each kind, with all that may be sought: what Write makes is what is made of a plain object, and o remains.
func TestWriteAsPlain(t *testing.T) {
	each(t, func(t *testing.T, x hamt.Land, o object.Object, p plain) {
		for i, k := range sought(p.len()) {
			for _, c := range []object.Code{15, object.Push, object.Pop, object.Put, object.Take, 20} {
				if k.Right() || p.kind == 1 || c != object.Put { // keys that are put are valid
					makes(t, x, o, p, object.Op{Code: c, Key: k, Val: ordinary(20)[i%20], From: i - 2, N: 7 * i % 66})
				}
			}
		}
	}, 0, 1, 2, 3, 17, 32, 33, 64, 65, 150)
}

// P13.3: a key that is put, or a value at a position, is the one that is read; and it is gone once it is taken, or popped.
func TestWriteThenRead(t *testing.T) {
	x := land(t, 3000)
	for _, k := range kinds() {
		for _, owner := range []uint32{0, 5} {
			o, _ := object.New(k)
			step := func(op object.Op) {
				t.Helper()
				made, e := object.Write(x, o, op, owner)
				o = built(t, x, o, made, e, owner)
			}
			for i, v := range ordinary(100) {
				put := object.Op{Code: object.Put, Key: v, Val: value.Number(int64(i))}
				if k == object.Vector {
					step(object.Op{Code: object.Push, Val: v})
					put.Key = value.Number(int64(i))
				}
				step(put)
				reads(t, x, o, object.Op{Code: object.Count}, []value.Value{value.Number(int64(i + 1))}, api.OK)
				if k == object.Set {
					reads(t, x, o, object.Op{Code: object.Has, Key: v}, []value.Value{value.Truth(true)}, api.OK)
				} else {
					reads(t, x, o, object.Op{Code: object.Get, Key: put.Key}, []value.Value{put.Val}, api.OK)
				}
			}
			for i, v := range ordinary(100) {
				if k == object.Vector {
					step(object.Op{Code: object.Pop})
					reads(t, x, o, object.Op{Code: object.Get, Key: value.Number(int64(99 - i))}, nil, api.ErrRange)
				} else {
					step(object.Op{Code: object.Take, Key: v})
					reads(t, x, o, object.Op{Code: object.Has, Key: v}, []value.Value{value.Truth(false)}, api.OK)
				}
			}
			if o != (object.Object{Kind: k}) {
				t.Errorf("the empty object is %v", o)
			}
			none(t, x)
		}
	}
}
