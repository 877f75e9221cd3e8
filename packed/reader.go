package packed

import (
	"bytes"

	"easement/api"
	"easement/value"
)

// Reader reads bytes; once something is wrong all is nothing.
type Reader struct {
	left   []byte
	failed api.Errno
}

// Open is a reader of bytes. It has a copy, as b may be changed after the call.
func Open(b []byte) *Reader { return &Reader{left: bytes.Clone(b)} }

// take takes so many bytes, or none if there are fewer, or if there is an error.
func (r *Reader) take(n int) []byte {
	if r.Failed() != api.OK {
		return nil
	}
	if n > len(r.left) {
		r.failed = api.ErrCut
		return nil
	}
	b := r.left[:n]
	r.left = r.left[n:]
	return b
}

// Number is a number of so many bytes (0 to 8).
func (r *Reader) Number(size int) uint64 {
	var n uint64
	for i, c := range r.take(sized(size)) {
		n |= uint64(c) << (8 * i)
	}
	return n
}

// Text is bytes, at most so many. The length is judged ahead of what follows
// it, so that a text that is both too long and not there is too long.
func (r *Reader) Text(most int) string {
	n := int(r.Number(2))
	if r.Failed() != api.OK {
		return ""
	}
	if n > most {
		r.failed = api.ErrLong
		return ""
	}
	return string(r.take(n))
}

// Value is a value.
func (r *Reader) Value() value.Value {
	v := value.Value{Kind: value.Kind(r.Number(1))}
	switch v.Kind {
	case value.Bool:
		v.N = int64(r.Number(1))
	case value.Int:
		v.N = int64(r.Number(8))
	case value.Bytes:
		v.S = r.Text(api.MaxBytes)
	}
	if r.Failed() != api.OK {
		return value.Value{}
	}
	if !v.Right() {
		r.failed = api.ErrForm
		return value.Value{}
	}
	return v
}

// Left is how many bytes are left, also beside an error: what was taken ahead
// of the error is gone, and the rest is still there.
func (r *Reader) Left() int {
	if r == nil {
		return 0
	}
	return len(r.left)
}

// Failed is what was wrong first.
func (r *Reader) Failed() api.Errno {
	if r == nil {
		return api.ErrArg
	}
	return r.failed
}

// End is what was wrong first, or ErrLong, if bytes are left.
func (r *Reader) End() api.Errno {
	if e := r.Failed(); e != api.OK {
		return e
	}
	if r.Left() > 0 {
		return api.ErrLong
	}
	return api.OK
}
