package object_test

import (
	"cmp"
	"fmt"
	"maps"
	"math"
	"slices"
	"strings"
	"testing"

	"easement/api"
	"easement/hamt"
	"easement/object"
	"easement/value"
)

// plain is what an object must have: the values of a vector, or the keys of another
// kind, each with its value, which of a set is Nil. Codes and kinds stand here as
// the chapter's numbers.
type plain struct {
	kind object.Kind
	list []value.Value
	keys map[value.Value]value.Value
}

// len is how many values or keys there are.
func (p plain) len() int { return len(p.list) + len(p.keys) }

// clone is another one with the same.
func (p plain) clone() plain {
	q := plain{kind: p.kind, list: slices.Clone(p.list), keys: maps.Clone(p.keys)}
	if q.keys == nil {
		q.keys = map[value.Value]value.Value{}
	}
	return q
}

// order compares two keys as the chapter of layer 1 orders them.
func order(a, b value.Value) int {
	return cmp.Or(cmp.Compare(a.Kind, b.Kind), cmp.Compare(a.N, b.N), strings.Compare(a.S, b.S))
}

// before compares two keys as the chapter of layer 8 orders them.
func before(x hamt.Land, a, b value.Value) int {
	g, h := x.Of(a), x.Of(b)
	for range 13 {
		if g%32 != h%32 {
			return cmp.Compare(g%32, h%32)
		}
		g, h = g/32, h/32
	}
	return order(a, b)
}

// pairs are the keys in the order of the kind, each with its value.
func (p plain) pairs(x hamt.Land) []hamt.Pair {
	var l []hamt.Pair
	for k, v := range p.keys {
		l = append(l, hamt.Pair{Key: k, Value: v})
	}
	slices.SortFunc(l, func(a, b hamt.Pair) int {
		if p.kind == 4 {
			return order(a.Key, b.Key)
		}
		return before(x, a.Key, b.Key)
	})
	return l
}

// entries are those of all pages, in the order of the kind.
func (p plain) entries(x hamt.Land) [][]value.Value {
	var out [][]value.Value
	for _, v := range p.list {
		out = append(out, []value.Value{v})
	}
	for _, q := range p.pairs(x) {
		if p.kind == 3 {
			out = append(out, []value.Value{q.Key})
		} else {
			out = append(out, []value.Value{q.Key, q.Value})
		}
	}
	return out
}

// at is the position that a key tells.
func (p plain) at(k value.Value) (int64, api.Errno) {
	if k.Kind != value.Int {
		return 0, api.ErrKind
	}
	if k.N < 0 || k.N > int64(len(p.list))-1 {
		return 0, api.ErrRange
	}
	return k.N, api.OK
}

// read is what Read must return.
func (p plain) read(x hamt.Land, op object.Op) ([]value.Value, api.Errno) {
	switch op.Code {
	case 1:
		return []value.Value{value.Number(int64(p.len()))}, api.OK
	case 2:
		return p.get(op.Key)
	case 3:
		if p.kind == 1 {
			return nil, api.ErrKind
		}
		_, ok := p.keys[op.Key]
		return []value.Value{value.Truth(ok)}, api.OK
	case 4:
		if op.N < 0 || op.N > 64 {
			return nil, api.ErrArg
		}
		if op.From < 0 || op.From > p.len() {
			return nil, api.ErrRange
		}
		l := p.entries(x)[op.From:]
		return slices.Concat(l[:min(op.N, len(l))]...), api.OK
	case 5, 6:
		return p.near(x, op)
	}
	return nil, api.ErrArg
}

// get is what Get must return.
func (p plain) get(k value.Value) ([]value.Value, api.Errno) {
	switch p.kind {
	case 1:
		i, e := p.at(k)
		if e != api.OK {
			return nil, e
		}
		return []value.Value{p.list[i]}, api.OK
	case 3:
		return nil, api.ErrKind
	}
	v, ok := p.keys[k]
	if !ok {
		return nil, api.ErrNone
	}
	return []value.Value{v}, api.OK
}

// near is what Floor and Ceil must return.
func (p plain) near(x hamt.Land, op object.Op) ([]value.Value, api.Errno) {
	if p.kind != 4 {
		return nil, api.ErrKind
	}
	l := p.entries(x)
	if op.Code == 5 {
		slices.Reverse(l)
	}
	for _, entry := range l {
		c := order(entry[0], op.Key)
		if c == 0 || op.Code == 5 && c < 0 || op.Code == 6 && c > 0 {
			return entry, api.OK
		}
	}
	return nil, api.ErrNone
}

// write is what an object must have that Write returns, where there is room.
func (p plain) write(op object.Op) (plain, api.Errno) {
	q := p.clone()
	if op.Code < 16 || op.Code > 19 {
		return plain{}, api.ErrArg
	}
	if p.kind == 1 {
		return q.writeList(op)
	}
	_, there := p.keys[op.Key]
	switch {
	case op.Code < 18:
		return plain{}, api.ErrKind
	case op.Code == 19 && !there:
		return plain{}, api.ErrNone
	case op.Code == 19:
		delete(q.keys, op.Key)
	case !there && len(p.keys) > 1023:
		return plain{}, api.ErrLong
	case p.kind == 3:
		q.keys[op.Key] = value.Value{}
	default:
		q.keys[op.Key] = op.Val
	}
	return q, api.OK
}

// writeList is what a vector must have. It changes the list of p.
func (p plain) writeList(op object.Op) (plain, api.Errno) {
	switch op.Code {
	case 16:
		if len(p.list) > 1023 {
			return plain{}, api.ErrLong
		}
		p.list = append(p.list, op.Val)
	case 17:
		if len(p.list) == 0 {
			return plain{}, api.ErrRange
		}
		p.list = p.list[:len(p.list)-1]
	case 18:
		i, e := p.at(op.Key)
		if e != api.OK {
			return plain{}, e
		}
		p.list[i] = op.Val
	default:
		return plain{}, api.ErrKind
	}
	return p, api.OK
}

// ordinary are n different keys of all kinds.
func ordinary(n int) []value.Value {
	l := []value.Value{
		value.Number(-1), {}, value.Truth(true), value.Number(math.MaxInt64), value.Truth(false), value.Number(math.MinInt64),
		value.Text("\xff\xfe"), value.Text(""), value.Text("\x00"), value.Text(string(make([]byte, api.MaxBytes))),
	}
	for i := range n {
		l = append(l, value.Text(fmt.Sprint("key ", i)), value.Number(int64(i)))
	}
	return l[:n]
}

// extra are n keys that no ordinary ones equal.
func extra(n int) []value.Value {
	var l []value.Value
	for i := range n {
		l = append(l, value.Text(fmt.Sprint("other ", i)))
	}
	return l
}

// filled is what an object of n values or keys has.
func filled(k object.Kind, n int) plain {
	p := plain{kind: k}.clone()
	for i, v := range ordinary(n) {
		switch k {
		case 1:
			p.list = append(p.list, v)
		case 3:
			p.keys[v] = value.Value{}
		default:
			p.keys[v] = value.Number(int64(i))
		}
	}
	return p
}

// strays are keys that no ordinary ones equal, and values that are not valid.
func strays() []value.Value {
	l := extra(3)
	for _, kind := range []value.Kind{value.Nil, value.Bool, value.Int, value.Bytes, 4, 200, 255} {
		for _, n := range []int64{math.MinInt64, -1, 0, 1, 2, 1 << 32, math.MaxInt64} {
			l = append(l, value.Value{Kind: kind, N: n, S: "x"})
		}
	}
	return append(l, value.Value{Kind: 4}, value.Value{Kind: value.Bool, N: 257}, value.Text(strings.Repeat("k", 70000)))
}

// positions are numbers as keys: each edge of a vector of n values, and others.
func positions(n int) []value.Value {
	var l []value.Value
	for _, i := range []int64{math.MinInt64, -1 << 32, -2, -1, 0, 1, 1023, 1024, 1 << 32, 1<<32 + 1, math.MaxInt64} {
		l = append(l, value.Number(i))
	}
	for i := n - 2; i < n+2; i++ {
		l = append(l, value.Number(int64(i)))
	}
	return append(l, value.Number(int64(n/2)))
}

// few are the first and last of some values, and others between.
func few(l []value.Value) []value.Value {
	var out []value.Value
	for i, v := range l {
		if i < 12 || i+3 > len(l) || i%(len(l)/8+1) == 0 {
			out = append(out, v)
		}
	}
	return out
}

// sought are keys to search for in an object of n values or keys that is filled.
func sought(n int) []value.Value {
	return slices.Concat(few(ordinary(n)), ordinary(n + 20)[n:], strays(), positions(n))
}

// random returns numbers that follow from a first one alone.
func random(n uint64) func(below int) int {
	return func(below int) int {
		n = n*6364136223846793005 + 1442695040888963407
		return int(n >> 33 % uint64(below))
	}
}

// The keys are what the other tests take them for: valid, and all different.
func TestKeys(t *testing.T) {
	for _, n := range []int{0, 1, 2, 20, 1024, 1044} {
		l := append(ordinary(n), extra(9)...)
		if !value.All(l...) {
			t.Error("not all keys are valid")
		}
		slices.SortFunc(l, order)
		if len(l) != n+9 || len(slices.Compact(l)) != n+9 {
			t.Errorf("there are not %d different keys", n+9)
		}
	}
}
