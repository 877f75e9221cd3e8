// Package value is layer 1: see shared/doc/01-value.md.
package value

import (
	"cmp"

	"easement/api"
)

// Kind is a value's kind.
type Kind byte

// The kinds, in their order.
const (
	Nil Kind = iota
	Bool
	Int
	Bytes
)

// Value is a value: a truth is N 0 or 1, bytes are S.
type Value struct {
	Kind Kind
	N    int64
	S    string
}

// Truth is a truth as a value.
func Truth(b bool) Value {
	if b {
		return Value{Kind: Bool, N: 1}
	}
	return Value{Kind: Bool}
}

// Number is a number as a value.
func Number(n int64) Value { return Value{Kind: Int, N: n} }

// Text is bytes as a value.
func Text(s string) Value { return Value{Kind: Bytes, S: s} }

// Right tells whether a value is valid. A value that equals the one made of
// what its kind uses has nothing else, so no field is looked at by itself.
func (v Value) Right() bool {
	switch v.Kind {
	case Nil:
		return v == Value{}
	case Bool:
		return v == Truth(false) || v == Truth(true)
	case Int:
		return v == Number(v.N)
	case Bytes:
		return v == Text(v.S) && len(v.S) <= api.MaxBytes
	}
	return false
}

// Compare is -1, 0 or 1: by kind, then by number, then by bytes. It doesn't ask
// whether the values are valid: each field counts, whatever the kind is.
func Compare(a, b Value) int {
	if a == b {
		return 0
	}
	if a.Kind != b.Kind {
		return cmp.Compare(a.Kind, b.Kind)
	}
	if a.N != b.N {
		return cmp.Compare(a.N, b.N)
	}
	return cmp.Compare(a.S, b.S)
}

// All tells whether all values are valid.
func All(l ...Value) bool {
	for _, v := range l {
		if !v.Right() {
			return false
		}
	}
	return true
}

// Lists is -1, 0 or 1: by the first position at which both lists have different
// values, or, if there is none, by their lengths.
func Lists(a, b []Value) int {
	for i := range min(len(a), len(b)) {
		if a[i] != b[i] {
			return Compare(a[i], b[i])
		}
	}
	return cmp.Compare(len(a), len(b))
}
