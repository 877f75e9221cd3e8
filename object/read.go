package object

import (
	"easement/api"
	"easement/hamt"
	"easement/hset"
	"easement/pvec"
	"easement/reach"
	"easement/scan"
	"easement/slice"
	"easement/treap"
	"easement/value"
)

// Read is what an operation tells.
func Read(x hamt.Land, o Object, op Op) ([]value.Value, api.Errno) {
	switch op.Code {
	case Count:
		return []value.Value{value.Number(int64(o.Len()))}, api.OK
	case Get:
		return o.get(x, op.Key)
	case Has:
		return o.has(x, op.Key)
	case Page:
		return o.page(x, op.From, op.N)
	case Floor, Ceil:
		return o.near(x, op)
	}
	return nil, api.ErrArg
}

// get is the value at a position, or of a key.
func (o Object) get(x hamt.Land, k value.Value) ([]value.Value, api.Errno) {
	switch o.Kind {
	case Set:
		return nil, api.ErrKind
	case Vector:
		return o.valueAt(x, k)
	}
	v, ok := o.look(x, k)
	if !ok {
		return nil, api.ErrNone
	}
	return []value.Value{v}, api.OK
}

// valueAt is the value at a position of a vector.
func (o Object) valueAt(x hamt.Land, k value.Value) ([]value.Value, api.Errno) {
	i, e := o.place(k)
	if e != api.OK {
		return nil, e
	}
	v, e := pvec.Get(x.Arena, o.Vec, i)
	if e != api.OK {
		return nil, e
	}
	return []value.Value{v}, api.OK
}

// has tells whether there is a key.
func (o Object) has(x hamt.Land, k value.Value) ([]value.Value, api.Errno) {
	if o.Kind == Vector {
		return nil, api.ErrKind
	}
	_, ok := o.look(x, k)
	return []value.Value{value.Truth(ok)}, api.OK
}

// look is a key's value, which of a set is Nil; false: there is no such key.
func (o Object) look(x hamt.Land, k value.Value) (value.Value, bool) {
	switch o.Kind {
	case Map:
		return x.Look(o.Map, k)
	case Set:
		return value.Value{}, hset.Has(x, o.Set, k)
	case Sorted:
		return treap.Look(x, o.Tree, k)
	}
	return value.Value{}, false
}

// page is what there is from a position on, so many entries at most.
func (o Object) page(x hamt.Land, from, n int) ([]value.Value, api.Errno) {
	if n < 0 || n > api.MaxPage {
		return nil, api.ErrArg
	}
	if from < 0 || from > o.Len() {
		return nil, api.ErrRange
	}
	switch o.Kind {
	case Vector:
		return slice.Page(x.Arena, o.Vec, from, n)
	case Map:
		l, e := scan.Page(x, o.Map, from, n)
		return flat(l), e
	case Set:
		l, e := scan.Page(x, o.Set.Map, from, n)
		return keys(l), e
	case Sorted:
		return flat(stretch(x, o.Tree, from, n)), api.OK
	}
	return nil, api.OK
}

// stretch is the pairs of a sorted map from a position on, so many at most. The
// pages of layer 12 begin at keys, not at positions.
func stretch(x hamt.Land, t treap.Tree, from, n int) []hamt.Pair {
	var l []hamt.Pair
	for p := range treap.Pairs(x, t) {
		if len(l) == n {
			break
		}
		if from == 0 {
			l = append(l, p)
		} else {
			from--
		}
	}
	return l
}

// keys are those of pairs.
func keys(pairs []hamt.Pair) []value.Value {
	var l []value.Value
	for _, p := range pairs {
		l = append(l, p.Key)
	}
	return l
}

// flat is each key of pairs, with its value behind it.
func flat(pairs []hamt.Pair) []value.Value {
	var l []value.Value
	for _, p := range pairs {
		l = append(l, p.Key, p.Value)
	}
	return l
}

// near is the neighbour of a key in a sorted map, on the side that the code tells.
func (o Object) near(x hamt.Land, op Op) ([]value.Value, api.Errno) {
	if o.Kind != Sorted {
		return nil, api.ErrKind
	}
	find := reach.Floor
	if op.Code == Ceil {
		find = reach.Ceil
	}
	p, ok := find(x, o.Tree, op.Key)
	if !ok {
		return nil, api.ErrNone
	}
	return []value.Value{p.Key, p.Value}, api.OK
}
