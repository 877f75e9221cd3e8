package transient_test

import (
	"fmt"
	"maps"
	"math"
	"slices"
	"testing"

	"easement/api"
	"easement/hamt"
	"easement/object"
	"easement/scan"
	"easement/value"
)

// plain is what an object must have: the values of a vector, or the keys of another
// kind, each with its value, which of a set is Nil; and whether it is a transient.
// Kinds and codes stand here as the numbers of their chapter.
type plain struct {
	kind   object.Kind
	list   []value.Value
	keys   map[value.Value]value.Value
	thawed bool
}

// empty is an empty version.
func empty(k object.Kind) plain { return plain{kind: k, keys: map[value.Value]value.Value{}} }

// len is how many values or keys there are.
func (p plain) len() int { return len(p.list) + len(p.keys) }

// as is another one that has the same, as a transient or as a version.
func (p plain) as(thawed bool) plain {
	return plain{p.kind, slices.Clone(p.list), maps.Clone(p.keys), thawed}
}

// entries are those of all pages, in the order of the kind.
func (p plain) entries(x hamt.Land) [][]value.Value {
	var l [][]value.Value
	for _, v := range p.list {
		l = append(l, []value.Value{v})
	}
	for _, k := range slices.SortedFunc(maps.Keys(p.keys), func(a, b value.Value) int {
		if p.kind == 4 {
			return value.Compare(a, b)
		}
		return scan.Compare(x, a, b)
	}) {
		if p.kind == 3 {
			l = append(l, []value.Value{k})
		} else {
			l = append(l, []value.Value{k, p.keys[k]})
		}
	}
	return l
}

// at is the position that a key tells.
func (p plain) at(k value.Value) (int, api.Errno) {
	if k.Kind != value.Int {
		return 0, api.ErrKind
	}
	if k.N < 0 || k.N >= int64(len(p.list)) {
		return 0, api.ErrRange
	}
	return int(k.N), api.OK
}

// read is what Read of layer 13 must return.
func (p plain) read(x hamt.Land, op object.Op) ([]value.Value, api.Errno) {
	v, there := p.keys[op.Key]
	switch {
	case op.Code == 1:
		return []value.Value{value.Number(int64(p.len()))}, api.OK
	case op.Code == 2 && p.kind == 1:
		i, e := p.at(op.Key)
		if e != api.OK {
			return nil, e
		}
		return p.list[i : i+1], api.OK
	case op.Code == 2 && p.kind == 3 || op.Code == 3 && p.kind == 1:
		return nil, api.ErrKind
	case op.Code == 2 && !there:
		return nil, api.ErrNone
	case op.Code == 2:
		return []value.Value{v}, api.OK
	case op.Code == 3:
		return []value.Value{value.Truth(there)}, api.OK
	case op.Code == 4:
		return p.page(x, op.From, op.N)
	case op.Code == 5 || op.Code == 6:
		return p.near(x, op)
	}
	return nil, api.ErrArg
}

// page is what Page must return.
func (p plain) page(x hamt.Land, from, n int) ([]value.Value, api.Errno) {
	if n < 0 || n > 64 {
		return nil, api.ErrArg
	}
	if from < 0 || from > p.len() {
		return nil, api.ErrRange
	}
	l := p.entries(x)[from:]
	return slices.Concat(l[:min(n, len(l))]...), api.OK
}

// near is what Floor and Ceil must return.
func (p plain) near(x hamt.Land, op object.Op) ([]value.Value, api.Errno) {
	if p.kind != 4 {
		return nil, api.ErrKind
	}
	l, side := p.entries(x), 1
	if op.Code == 5 {
		slices.Reverse(l)
		side = -1
	}
	for _, entry := range l {
		if value.Compare(entry[0], op.Key)*side >= 0 {
			return entry, api.OK
		}
	}
	return nil, api.ErrNone
}

// write is what Write of layer 13 must return, where there is room.
func (p plain) write(op object.Op) (plain, api.Errno) {
	if op.Code < 16 || op.Code > 19 {
		return plain{}, api.ErrArg
	}
	q := p.as(p.thawed)
	if p.kind == 1 {
		return q.writeList(op)
	}
	_, there := p.keys[op.Key]
	switch {
	case op.Code < 18:
		return plain{}, api.ErrKind
	case op.Code == 19 && !there:
		return plain{}, api.ErrNone
	case op.Code == 19:
		delete(q.keys, op.Key)
	case !there && len(p.keys) == 1024:
		return plain{}, api.ErrLong
	case p.kind == 3:
		q.keys[op.Key] = value.Value{}
	default:
		q.keys[op.Key] = op.Val
	}
	return q, api.OK
}

// writeList is what a vector must have. It changes the list of p.
func (p plain) writeList(op object.Op) (plain, api.Errno) {
	switch {
	case op.Code == 16 && len(p.list) == 1024:
		return plain{}, api.ErrLong
	case op.Code == 16:
		p.list = append(p.list, op.Val)
	case op.Code == 17 && len(p.list) == 0:
		return plain{}, api.ErrRange
	case op.Code == 17:
		p.list = p.list[:len(p.list)-1]
	case op.Code == 18:
		i, e := p.at(op.Key)
		if e != api.OK {
			return plain{}, e
		}
		p.list[i] = op.Val
	default:
		return plain{}, api.ErrKind
	}
	return p, api.OK
}

// table is what a table must have: plain objects, by number.
type table struct {
	x       hamt.Land
	last    int
	objects map[int]plain
}

// add adds an object, and returns its number.
func (p *table) add(o plain) int {
	p.last++
	p.objects[p.last] = o
	return p.last
}

// tells is what Tells must return.
func (p *table) tells(id int, op object.Op) ([]value.Value, api.Errno) {
	o, ok := p.objects[id]
	if !ok {
		return nil, api.ErrNone
	}
	return o.read(p.x, op)
}

// derived is what Derive must add, where there is room.
func (p *table) derived(id int, op object.Op) (plain, api.Errno) {
	o, e := p.thawable(id)
	if e != api.OK {
		return plain{}, e
	}
	return o.write(op)
}

// thawable is a version.
func (p *table) thawable(id int) (plain, api.Errno) {
	o, ok := p.objects[id]
	switch {
	case !ok:
		return plain{}, api.ErrNone
	case o.thawed:
		return plain{}, api.ErrState
	}
	return o, api.OK
}

// changed is what Change must leave, where there is room.
func (p *table) changed(id int, op object.Op) (plain, api.Errno) {
	o, e := p.freezable(id)
	if e != api.OK {
		return plain{}, e
	}
	return o.write(op)
}

// freezable is a transient.
func (p *table) freezable(id int) (plain, api.Errno) {
	o, ok := p.objects[id]
	switch {
	case !ok:
		return plain{}, api.ErrNone
	case !o.thawed:
		return plain{}, api.ErrFrozen
	}
	return o, api.OK
}

// plenty is room that is always enough for a change, as the layers of the kinds say.
func (p plain) plenty() int {
	switch p.kind {
	case 1:
		return 8
	case 4:
		return p.len() + 3
	}
	return 20
}

// some are n different values of all kinds, which are valid.
func some(n int) []value.Value {
	l := []value.Value{
		value.Number(-1), {}, value.Truth(true), value.Number(math.MaxInt64), value.Truth(false), value.Number(math.MinInt64),
		value.Text("\xff\xfe"), value.Text(""), value.Text("\x00"), value.Text(string(make([]byte, api.MaxBytes))),
	}
	for i := range n {
		l = append(l, value.Text(fmt.Sprint("key ", i)), value.Number(int64(i)))
	}
	return l[:n]
}

// filling are the operations that fill an empty object with n values or keys.
func filling(k object.Kind, n int) []object.Op {
	var l []object.Op
	for i, v := range some(n) {
		op := object.Op{Code: object.Put, Key: v, Val: value.Number(int64(i))}
		if k == 1 {
			op = object.Op{Code: object.Push, Val: v}
		}
		l = append(l, op)
	}
	return l
}

// done are operations that an object of n values or keys, which was filled, does not refuse.
func done(k object.Kind, n int) []object.Op {
	var l []object.Op
	val := value.Text("done")
	if k == 1 {
		l = append(l, object.Op{Code: object.Push, Val: val})
		if n > 0 {
			l = append(l, object.Op{Code: object.Pop})
		}
	} else {
		l = append(l, object.Op{Code: object.Put, Key: value.Text("other"), Val: val})
	}
	for i, v := range some(n) {
		switch {
		case i != 0 && i != n/2 && i != n-1:
		case k == 1:
			l = append(l, object.Op{Code: object.Put, Key: value.Number(int64(i)), Val: val})
		default:
			l = append(l, object.Op{Code: object.Put, Key: v, Val: val}, object.Op{Code: object.Take, Key: v})
		}
	}
	return l
}

// refusal is an operation that an object refuses, and its error.
type refusal struct {
	op object.Op
	e  api.Errno
}

// refused are operations that an object of n values or keys, which was filled, refuses.
func refused(k object.Kind, n int) []refusal {
	var l []refusal
	for c := range 256 {
		if c < 16 || c > 19 {
			l = append(l, refusal{object.Op{Code: object.Code(c), N: 1}, api.ErrArg})
		}
	}
	if k != 1 {
		return append(l,
			refusal{object.Op{Code: object.Push, Val: value.Number(1)}, api.ErrKind},
			refusal{object.Op{Code: object.Pop}, api.ErrKind},
			refusal{object.Op{Code: object.Take, Key: value.Text("other")}, api.ErrNone})
	}
	for _, i := range []int64{math.MinInt64, -1, int64(n), int64(n) + 1, 1 << 32, math.MaxInt64} {
		l = append(l, refusal{object.Op{Code: object.Put, Key: value.Number(i)}, api.ErrRange})
	}
	if n == 0 {
		l = append(l, refusal{object.Op{Code: object.Pop}, api.ErrRange})
	}
	return append(l,
		refusal{object.Op{Code: object.Put, Key: value.Text("0")}, api.ErrKind},
		refusal{object.Op{Code: object.Take, Key: value.Number(0)}, api.ErrKind})
}

// reading are operations that read, with their edges for an object of n values or keys, and ones with other codes.
func reading(n int) []object.Op {
	keys := append(some(min(n, 12)), value.Text("other"), value.Number(int64(n-1)), value.Number(int64(n)), value.Value{Kind: 200, N: 3, S: "x"})
	var l []object.Op
	for c := range object.Code(21) {
		for _, k := range keys {
			l = append(l, object.Op{Code: c, Key: k, Val: value.Text("x"), From: 1, N: 3})
		}
	}
	for _, from := range []int{math.MinInt, -1, 0, 1, n / 2, n - 1, n, n + 1, math.MaxInt} {
		for _, most := range []int{math.MinInt, -1, 0, 1, 63, 64, 65, math.MaxInt} {
			l = append(l, object.Op{Code: object.Page, From: from, N: most})
		}
	}
	return append(l, object.Op{Code: 255}, object.Op{Code: 128, N: 1})
}

// random returns numbers that follow from a first one alone.
func random(n uint64) func(below int) int {
	return func(below int) int {
		n = n*6364136223846793005 + 1442695040888963407
		return int(n >> 33 % uint64(below))
	}
}

// The operations are what the other tests take them for.
func TestOperations(t *testing.T) {
	for _, k := range kinds() {
		for _, n := range []int{0, 1, 2, 33, 1024} {
			p := empty(k)
			for _, op := range filling(k, n) {
				q, e := p.write(op)
				if e != api.OK || q.len() != p.len()+1 || !value.All(op.Key, op.Val) {
					t.Fatalf("an object of %d can't be filled with %v", p.len(), op)
				}
				p = q
			}
			for _, op := range done(k, min(n, 1023)) {
				if n < 1024 {
					if _, e := p.write(op); e != api.OK || !value.All(op.Key, op.Val) {
						t.Errorf("the operation %v is refused: %d", op, e)
					}
				}
			}
			for _, r := range refused(k, n) {
				if _, e := p.write(r.op); e != r.e {
					t.Errorf("the operation %v is refused with %d, want %d", r.op, e, r.e)
				}
			}
		}
	}
}
