package packed_test

import (
	"bytes"
	"math"
	"strings"
	"testing"

	"easement/api"
	"easement/packed"
	"easement/value"
)

// state looks at how many bytes a reader has left, at its error, and at its end.
func state(t *testing.T, name string, r *packed.Reader, left int, failed api.Errno) {
	t.Helper()
	end := failed
	if failed == api.OK && left > 0 {
		end = api.ErrLong
	}
	for range 2 {
		if r.Left() != left || r.Failed() != failed || r.End() != end {
			t.Fatalf("%s: left %d, failed %d, end %d; want %d, %d, %d",
				name, r.Left(), r.Failed(), r.End(), left, failed, end)
		}
	}
}

// stuck looks whether a reader that has an error keeps it, and its bytes, and reads nothing.
func stuck(t *testing.T, name string, r *packed.Reader) {
	t.Helper()
	left, failed := r.Left(), r.Failed()
	for _, size := range []int{-1, 0, 1, 2, 8, 9} {
		if n := r.Number(size); n != 0 {
			t.Fatalf("%s: Number(%d) is %d beside an error", name, size, n)
		}
	}
	for _, most := range []int{-1, 0, 1, 65535} {
		if s := r.Text(most); s != "" {
			t.Fatalf("%s: Text(%d) is %q beside an error", name, most, s)
		}
	}
	if v := r.Value(); v != (value.Value{}) {
		t.Fatalf("%s: Value is %#v beside an error", name, v)
	}
	state(t, name, r, left, failed)
}

// P2.2: Number, for all sizes, with bytes left, with none left, and with too few.
func TestNumber(t *testing.T) {
	b := []byte{0x88, 0x77, 0x66, 0x55, 0x44, 0x33, 0x22, 0x91, 1, 2}
	for _, c := range []struct {
		size int
		took int
		want uint64
	}{
		{math.MinInt, 0, 0}, {-1, 0, 0}, {0, 0, 0},
		{1, 1, 0x88}, {2, 2, 0x7788}, {3, 3, 0x667788}, {4, 4, 0x55667788},
		{5, 5, 0x4455667788}, {6, 6, 0x334455667788}, {7, 7, 0x22334455667788},
		{8, 8, 0x9122334455667788}, {9, 8, 0x9122334455667788}, {math.MaxInt, 8, 0x9122334455667788},
	} {
		r := packed.Open(b)
		if n := r.Number(c.size); n != c.want {
			t.Errorf("Number(%d) is %x", c.size, n)
		}
		state(t, "more bytes", r, len(b)-c.took, api.OK)
		r = packed.Open(b[:c.took])
		if n := r.Number(c.size); n != c.want {
			t.Errorf("Number(%d) of just as many bytes is %x", c.size, n)
		}
		state(t, "just as many bytes", r, 0, api.OK)
		for few := range c.took {
			r = packed.Open(b[:few])
			if n := r.Number(c.size); n != 0 {
				t.Errorf("Number(%d) of %d bytes is %x", c.size, few, n)
			}
			state(t, "too few bytes", r, few, api.ErrCut)
			stuck(t, "too few bytes", r)
		}
	}
}

// P2.2: Text: its length, what it may have at most, and what is not there; what stays taken beside an error.
func TestReadText(t *testing.T) {
	long := strings.Repeat("long", 1<<14)[:65535]
	for _, c := range []struct {
		name   string
		b      []byte
		most   int
		want   string
		left   int
		failed api.Errno
	}{
		{"no bytes", nil, 9, "", 0, api.ErrCut},
		{"one byte", []byte{1}, 9, "", 1, api.ErrCut},
		{"one byte, whatever most is", []byte{9}, -1, "", 1, api.ErrCut},
		{"empty", []byte{0, 0}, 9, "", 0, api.OK},
		{"empty, and more", []byte{0, 0, 5}, 0, "", 1, api.OK},
		{"empty, most below 0", []byte{0, 0, 5}, -1, "", 1, api.ErrLong},
		{"empty, least most", []byte{0, 0}, math.MinInt, "", 0, api.ErrLong},
		{"just as long as most", []byte{2, 0, 'a', 'b'}, 2, "ab", 0, api.OK},
		{"just as long as most, and more", []byte{2, 0, 'a', 'b', 'c'}, 2, "ab", 1, api.OK},
		{"shorter than most", []byte{2, 0, 'a', 'b', 'c'}, 3, "ab", 1, api.OK},
		{"longer than most", []byte{2, 0, 'a', 'b', 'c'}, 1, "", 3, api.ErrLong},
		{"longer than 0", []byte{1, 0, 'a'}, 0, "", 1, api.ErrLong},
		{"not there", []byte{2, 0}, 2, "", 0, api.ErrCut},
		{"not all there", []byte{2, 0, 'a'}, 2, "", 1, api.ErrCut},
		{"longer than most, and not there", []byte{2, 0, 'a'}, 1, "", 1, api.ErrLong},
		{"greatest most", []byte{2, 0, 'a'}, math.MaxInt, "", 1, api.ErrCut},
		{"the lower byte first", append([]byte{1, 1}, long[:258]...), 257, long[:257], 1, api.OK},
		{"no text", []byte{3, 0, 0, 0xff, 0xc3, 1}, 3, "\x00\xff\xc3", 1, api.OK},
		{"65535 bytes", append([]byte{255, 255}, long...), 65535, long, 0, api.OK},
		{"65535 bytes, greatest most", append([]byte{255, 255}, long...), math.MaxInt, long, 0, api.OK},
		{"65535 bytes, longer than most", append([]byte{255, 255}, long...), 65534, "", 65535, api.ErrLong},
		{"65534 bytes of 65535", append([]byte{255, 255}, long[1:]...), 65535, "", 65534, api.ErrCut},
	} {
		r := packed.Open(c.b)
		if s := r.Text(c.most); s != c.want {
			t.Errorf("%s: got %d bytes, want %d", c.name, len(s), len(c.want))
		}
		state(t, c.name, r, c.left, c.failed)
		if c.failed != api.OK {
			stuck(t, c.name, r)
		}
	}
}

// P2.2: Value reads valid values, and leaves what follows them.
func TestReadValue(t *testing.T) {
	for _, c := range valid() {
		r := packed.Open(c.b)
		if v := r.Value(); v != c.v {
			t.Errorf("got %#v, want %#v", v, c.v)
		}
		state(t, "a value", r, 0, api.OK)
		r = packed.Open(append(bytes.Clone(c.b), 7, 7))
		if v := r.Value(); v != c.v {
			t.Errorf("with more behind it: got %#v, want %#v", v, c.v)
		}
		state(t, "a value, and more", r, 2, api.OK)
	}
}

// P2.2: of each valid value, some bytes are missing: what its parts took stays taken.
func TestReadValueCut(t *testing.T) {
	for _, c := range valid() {
		if len(c.b) > 1000 {
			c.b = append(c.b[:20:20], c.b[len(c.b)-20:]...)
		}
		for few := range len(c.b) {
			left := max(few-1, 0)
			if c.v.Kind == value.Bytes && few >= 3 {
				left = few - 3
			}
			r := packed.Open(c.b[:few])
			if v := r.Value(); v != (value.Value{}) {
				t.Errorf("%d bytes of %#v: got %#v", few, c.v, v)
			}
			state(t, "a value that is cut", r, left, api.ErrCut)
			stuck(t, "a value that is cut", r)
		}
	}
}

// P2.2: bytes of which no valid value is made.
func TestReadValueWrong(t *testing.T) {
	long := strings.Repeat("x", 65535)
	for _, c := range []struct {
		name   string
		b      []byte
		left   int
		failed api.Errno
	}{
		{"bool 2", []byte{1, 2}, 0, api.ErrForm},
		{"bool 2, and more", []byte{1, 2, 3, 4}, 2, api.ErrForm},
		{"bool 128", []byte{1, 128}, 0, api.ErrForm},
		{"bool 255", []byte{1, 255, 0}, 1, api.ErrForm},
		{"4097 bytes", append([]byte{3, 1, 16}, long[:4097]...), 4097, api.ErrLong},
		{"4097 bytes that are not there", []byte{3, 1, 16, 9}, 1, api.ErrLong},
		{"4096 bytes that are not there", append([]byte{3, 0, 16}, long[:4095]...), 4095, api.ErrCut},
		{"65535 bytes", append([]byte{3, 255, 255}, long...), 65535, api.ErrLong},
	} {
		r := packed.Open(c.b)
		if v := r.Value(); v != (value.Value{}) {
			t.Errorf("%s: got %#v", c.name, v)
		}
		state(t, c.name, r, c.left, c.failed)
		stuck(t, c.name, r)
	}
}

// P2.2: of a kind above 3 there is nothing, whether bytes follow or not; its byte stays taken.
func TestReadValueKinds(t *testing.T) {
	for k := 4; k < 256; k++ {
		for more := range 4 {
			r := packed.Open(append([]byte{byte(k)}, make([]byte, more)...))
			if v := r.Value(); v != (value.Value{}) {
				t.Errorf("kind %d: got %#v", k, v)
			}
			state(t, "a kind above 3", r, more, api.ErrForm)
			stuck(t, "a kind above 3", r)
		}
	}
}

// P2.2: the first error stays, whatever is asked after it, and each reading call finds it.
func TestFirstErrorStays(t *testing.T) {
	for _, c := range []struct {
		name string
		b    []byte
		ask  func(r *packed.Reader)
		want api.Errno
	}{
		{"cut, then too long", []byte{9}, func(r *packed.Reader) { r.Number(2); r.Text(-1) }, api.ErrCut},
		{"cut, then no value", []byte{9}, func(r *packed.Reader) { r.Number(2); r.Value() }, api.ErrCut},
		{"too long, then cut", []byte{1, 0}, func(r *packed.Reader) { r.Text(0); r.Number(8) }, api.ErrLong},
		{"no value, then cut", []byte{4}, func(r *packed.Reader) { r.Value(); r.Number(8); r.Text(-1) }, api.ErrForm},
		{"cut, then no bytes are left", nil, func(r *packed.Reader) { r.Number(1); r.Number(0) }, api.ErrCut},
	} {
		r := packed.Open(c.b)
		c.ask(r)
		if r.Failed() != c.want || r.End() != c.want {
			t.Errorf("%s: failed %d, end %d, want %d", c.name, r.Failed(), r.End(), c.want)
		}
		stuck(t, c.name, r)
	}
}

// P2.2: End tells what is left, and changes nothing: reading goes on after it.
func TestEndChangesNothing(t *testing.T) {
	r := packed.Open([]byte{1, 2, 0, 'a', 'b'})
	state(t, "at the beginning", r, 5, api.OK)
	if n := r.Number(1); n != 1 {
		t.Errorf("Number is %d after End", n)
	}
	state(t, "in the middle", r, 4, api.OK)
	if s := r.Text(2); s != "ab" {
		t.Errorf("Text is %q after End", s)
	}
	state(t, "at the end", r, 0, api.OK)
	if n := r.Number(0); n != 0 {
		t.Errorf("Number(0) is %d at the end", n)
	}
	state(t, "after nothing was read at the end", r, 0, api.OK)
	r.Value()
	state(t, "beyond the end", r, 0, api.ErrCut)
}

// P2.2: a reader of no bytes.
func TestOpenNothing(t *testing.T) {
	for _, b := range [][]byte{nil, {}, []byte{1, 2, 3}[:0]} {
		r := packed.Open(b)
		state(t, "no bytes", r, 0, api.OK)
		if r.Number(0) != 0 || r.Failed() != api.OK {
			t.Error("a number of size 0 is not read of no bytes")
		}
		r.Number(1)
		state(t, "a byte of no bytes", r, 0, api.ErrCut)
	}
}

// P2.2: a nil reader has nothing.
func TestNilReader(t *testing.T) {
	var r *packed.Reader
	for range 2 {
		for _, n := range []int{math.MinInt, -1, 0, 1, 8, 9, math.MaxInt} {
			if r.Number(n) != 0 || r.Text(n) != "" {
				t.Errorf("a nil reader reads something, by %d", n)
			}
		}
		if r.Value() != (value.Value{}) || r.Left() != 0 {
			t.Error("a nil reader has something")
		}
		if r.Failed() != api.ErrArg || r.End() != api.ErrArg {
			t.Error("a nil reader's error is not ErrArg:", r.Failed(), r.End())
		}
	}
}

// P2.2, and rule 3: a reader has the bytes as they were at the call, changes none, and none from behind the length.
func TestOpenKeepsItsOwn(t *testing.T) {
	whole := []byte{1, 1, 3, 2, 0, 'a', 'b', 7, 7}
	kept := bytes.Clone(whole)
	r := packed.Open(whole[:7])
	other := packed.Open(whole[:7])
	scratch(whole)
	if v := r.Value(); v != value.Truth(true) {
		t.Errorf("got %#v after the bytes were changed", v)
	}
	if v := r.Value(); v != value.Text("ab") {
		t.Errorf("got %#v after the bytes were changed", v)
	}
	state(t, "the end of the list", r, 0, api.OK)
	if n := r.Number(1); n != 0 {
		t.Errorf("a byte %d comes from behind the length", n)
	}
	state(t, "behind the end of the list", r, 0, api.ErrCut)
	state(t, "another reader of the same bytes", other, 7, api.OK)
	scratch(whole)
	if !bytes.Equal(whole, kept) {
		t.Error("a reader changed what it was opened with")
	}
}

// P2.3: numbers of each size come back.
func TestNumbersComeBack(t *testing.T) {
	for _, n := range []uint64{0, 1, 127, 128, 255, 256, 65535, 65536, 0x0123456789abcdef, 0xfedcba9876543210, 1 << 63, math.MaxUint64} {
		for size := -1; size <= 9; size++ {
			want := n
			if size < 8 {
				want = n & (1<<(8*max(size, 0)) - 1)
			}
			r := packed.Open(packed.Put(nil, n, size))
			if got := r.Number(size); got != want {
				t.Errorf("%x of size %d comes back as %x", n, size, got)
			}
			state(t, "a number that came back", r, 0, api.OK)
		}
	}
}

// P2.3: texts of all lengths come back.
func TestTextsComeBack(t *testing.T) {
	long := strings.Repeat("\x00text\xff", 11000)
	for _, n := range []int{0, 1, 2, 127, 128, 255, 256, 257, 4096, 4097, 32768, 65534, 65535} {
		r := packed.Open(packed.Text(nil, long[:n]))
		if got := r.Text(n); got != long[:n] {
			t.Errorf("a text of %d bytes comes back with %d", n, len(got))
		}
		state(t, "a text that came back", r, 0, api.OK)
	}
}

// P2.3: what was put one behind the other comes back in that order.
func TestAllComesBack(t *testing.T) {
	var b []byte
	for i, c := range valid() {
		b = packed.Put(b, uint64(i), 3)
		b = packed.Value(b, c.v)
		b = packed.Text(b, c.v.S)
	}
	r := packed.Open(b)
	for i, c := range valid() {
		if n := r.Number(3); n != uint64(i) {
			t.Fatalf("number %d comes back as %d", i, n)
		}
		if v := r.Value(); v != c.v {
			t.Fatalf("value %d comes back as %#v", i, v)
		}
		if s := r.Text(len(c.v.S)); s != c.v.S {
			t.Fatalf("text %d comes back as %q", i, s)
		}
	}
	state(t, "all came back", r, 0, api.OK)
}

// P1, P2.2: any short bytes are read to an end; what is read as a value is valid, and has just the bytes that were taken.
func TestAnyBytes(t *testing.T) {
	x := uint64(1)
	for range 20000 {
		var b []byte
		x = x*6364136223846793005 + 1442695040888963407
		for i := range int(x >> 60) {
			b = append(b, byte(x>>(3*i))&byte(3+252*(i%2)))
		}
		r := packed.Open(b)
		for r.Failed() == api.OK {
			before := r.Left()
			v := r.Value()
			if r.Failed() != api.OK {
				break
			}
			at := len(b) - before
			if !v.Right() || !bytes.Equal(packed.Value(nil, v), b[at:len(b)-r.Left()]) {
				t.Fatalf("%x at %d is read as %#v", b, at, v)
			}
		}
		stuck(t, "any bytes", r)
	}
}
