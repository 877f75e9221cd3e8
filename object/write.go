package object

import (
	"easement/api"
	"easement/hamt"
	"easement/hset"
	"easement/pvec"
	"easement/treap"
	"easement/value"
)

// Write is the object, changed; with an owner in place, as its layer says.
func Write(x hamt.Land, o Object, op Op, owner uint32) (Object, api.Errno) {
	made, e := o.change(x, op, owner)
	if e != api.OK {
		return Object{}, e
	}
	return made, api.OK
}

// change is the object that an operation makes. Beside an error it means nothing.
func (o Object) change(x hamt.Land, op Op, owner uint32) (Object, api.Errno) {
	switch op.Code {
	case Push:
		return o.push(x, op.Val, owner)
	case Pop:
		return o.pop(x, owner)
	case Put:
		return o.put(x, op.Key, op.Val, owner)
	case Take:
		return o.take(x, op.Key, owner)
	}
	return o, api.ErrArg
}

// push is a vector with one value more.
func (o Object) push(x hamt.Land, v value.Value, owner uint32) (Object, api.Errno) {
	if o.Kind != Vector {
		return o, api.ErrKind
	}
	vec, e := pvec.Push(x.Arena, o.Vec, v, owner)
	return Object{Kind: Vector, Vec: vec}, e
}

// pop is a vector without its last value.
func (o Object) pop(x hamt.Land, owner uint32) (Object, api.Errno) {
	if o.Kind != Vector {
		return o, api.ErrKind
	}
	vec, e := pvec.Pop(x.Arena, o.Vec, owner)
	return Object{Kind: Vector, Vec: vec}, e
}

// put is the object with a value at a position, or for a key.
func (o Object) put(x hamt.Land, k, v value.Value, owner uint32) (Object, api.Errno) {
	made, e := Object{Kind: o.Kind}, api.ErrKind
	switch o.Kind {
	case Vector:
		return o.putAt(x, k, v, owner)
	case Map:
		made.Map, e = x.Put(o.Map, k, v, owner)
	case Set:
		made.Set, e = hset.Add(x, o.Set, k, owner)
	case Sorted:
		made.Tree, e = treap.Put(x, o.Tree, k, v, owner)
	}
	return made, e
}

// putAt is a vector with another value at a position.
func (o Object) putAt(x hamt.Land, k, v value.Value, owner uint32) (Object, api.Errno) {
	i, e := o.place(k)
	if e != api.OK {
		return o, e
	}
	vec, e := pvec.Set(x.Arena, o.Vec, i, v, owner)
	return Object{Kind: Vector, Vec: vec}, e
}

// take is the object without a key. A vector has none.
func (o Object) take(x hamt.Land, k value.Value, owner uint32) (Object, api.Errno) {
	made, e := Object{Kind: o.Kind}, api.ErrKind
	switch o.Kind {
	case Map:
		made.Map, e = x.Take(o.Map, k, owner)
	case Set:
		made.Set, e = hset.Take(x, o.Set, k, owner)
	case Sorted:
		made.Tree, e = treap.Take(x, o.Tree, k, owner)
	}
	return made, e
}
