package packed_test

import (
	"bytes"
	"fmt"
	"math"
	"strings"
	"testing"

	"easement/packed"
	"easement/value"
)

// valid holds valid values of each kind, with the bytes of each.
func valid() []struct {
	v value.Value
	b []byte
} {
	full := strings.Repeat("x", 4096)
	return []struct {
		v value.Value
		b []byte
	}{
		{value.Value{}, []byte{0}},
		{value.Truth(false), []byte{1, 0}},
		{value.Truth(true), []byte{1, 1}},
		{value.Number(0), []byte{2, 0, 0, 0, 0, 0, 0, 0, 0}},
		{value.Number(1), []byte{2, 1, 0, 0, 0, 0, 0, 0, 0}},
		{value.Number(-2), []byte{2, 254, 255, 255, 255, 255, 255, 255, 255}},
		{value.Number(256), []byte{2, 0, 1, 0, 0, 0, 0, 0, 0}},
		{value.Number(0x0102030405060708), []byte{2, 8, 7, 6, 5, 4, 3, 2, 1}},
		{value.Number(math.MaxInt64), []byte{2, 255, 255, 255, 255, 255, 255, 255, 127}},
		{value.Number(math.MinInt64), []byte{2, 0, 0, 0, 0, 0, 0, 0, 128}},
		{value.Text(""), []byte{3, 0, 0}},
		{value.Text("a"), []byte{3, 1, 0, 'a'}},
		{value.Text("\x00\xff\xc3"), []byte{3, 3, 0, 0, 255, 195}},
		{value.Text(full[:255]), append([]byte{3, 255, 0}, full[:255]...)},
		{value.Text(full[:256]), append([]byte{3, 0, 1}, full[:256]...)},
		{value.Text(full[:4095]), append([]byte{3, 255, 15}, full[:4095]...)},
		{value.Text(full), append([]byte{3, 0, 16}, full...)},
	}
}

// heads holds lists behind which bytes are put: nil, empty, full, and with room behind the length.
func heads() [][]byte {
	roomy := bytes.Repeat([]byte{77}, 10000)
	return [][]byte{nil, {}, {9}, {9, 8, 7}, roomy[:0], roomy[:1], roomy[:5000]}
}

// behind looks at what a call puts behind each of the heads. The call is made
// twice: neither result may share memory with the head, or with the other.
func behind(t *testing.T, name string, want []byte, call func(b []byte) []byte) {
	t.Helper()
	for i, h := range heads() {
		whole := h[:cap(h)]
		kept := bytes.Clone(whole)
		all := append(bytes.Clone(h), want...)
		first, second := call(h), call(h)
		if !bytes.Equal(first, all) || !bytes.Equal(second, all) {
			t.Fatalf("%s, head %d: got %.40x and %.40x, want %.40x", name, i, first, second, all)
		}
		if !bytes.Equal(whole, kept) {
			t.Fatalf("%s, head %d: what was handed in was changed", name, i)
		}
		scratch(first)
		if !bytes.Equal(second, all) || !bytes.Equal(whole, kept) {
			t.Fatalf("%s, head %d: a result shares memory", name, i)
		}
		scratch(whole)
		if !bytes.Equal(second, all) {
			t.Fatalf("%s, head %d: a result shares memory with what was handed in", name, i)
		}
	}
}

// scratch changes every byte of a list, and those that it has room for.
func scratch(b []byte) {
	b = b[:cap(b)]
	for i := range b {
		b[i] ^= 0xa5
	}
}

// P2.1: Put, for all sizes, also those below 0 and above 8.
func TestPut(t *testing.T) {
	for _, c := range []struct {
		name string
		n    uint64
		size int
		want []byte
	}{
		{"size 0", 0x1122, 0, nil},
		{"size -1", 0x1122, -1, nil},
		{"least size", 0x1122, math.MinInt, nil},
		{"size 1", 7, 1, []byte{7}},
		{"size 1, more than a byte", 0x1122, 1, []byte{0x22}},
		{"size 2", 0x1122, 2, []byte{0x22, 0x11}},
		{"size 3", 0x1122, 3, []byte{0x22, 0x11, 0}},
		{"size 4", 0x1122334455667788, 4, []byte{0x88, 0x77, 0x66, 0x55}},
		{"size 7", 0x1122334455667788, 7, []byte{0x88, 0x77, 0x66, 0x55, 0x44, 0x33, 0x22}},
		{"size 8", 0x1122334455667788, 8, []byte{0x88, 0x77, 0x66, 0x55, 0x44, 0x33, 0x22, 0x11}},
		{"size 9", 0x1122334455667788, 9, []byte{0x88, 0x77, 0x66, 0x55, 0x44, 0x33, 0x22, 0x11}},
		{"greatest size", 0x1122334455667788, math.MaxInt, []byte{0x88, 0x77, 0x66, 0x55, 0x44, 0x33, 0x22, 0x11}},
		{"0 in 8 bytes", 0, 8, make([]byte, 8)},
		{"greatest number", math.MaxUint64, 8, bytes.Repeat([]byte{255}, 8)},
	} {
		behind(t, c.name, c.want, func(b []byte) []byte { return packed.Put(b, c.n, c.size) })
	}
}

// P2.1: Text, from no bytes to 65535.
func TestPutText(t *testing.T) {
	long := strings.Repeat("long", 1<<14)
	for _, c := range []struct {
		name string
		s    string
		want []byte
	}{
		{"no bytes", "", []byte{0, 0}},
		{"one byte", "a", []byte{1, 0, 'a'}},
		{"zero byte", "\x00", []byte{1, 0, 0}},
		{"bytes, not signs", "\xc3\xa9\xff", []byte{3, 0, 0xc3, 0xa9, 0xff}},
		{"255 bytes", long[:255], append([]byte{255, 0}, long[:255]...)},
		{"256 bytes", long[:256], append([]byte{0, 1}, long[:256]...)},
		{"4097 bytes", long[:4097], append([]byte{1, 16}, long[:4097]...)},
		{"65535 bytes", long[:65535], append([]byte{255, 255}, long[:65535]...)},
	} {
		behind(t, c.name, c.want, func(b []byte) []byte { return packed.Text(b, c.s) })
	}
}

// P2.1: Value, for valid values of each kind.
func TestPutValue(t *testing.T) {
	for _, c := range valid() {
		behind(t, fmt.Sprintf("value of kind %d, number %d, %d bytes", c.v.Kind, c.v.N, len(c.v.S)), c.b, func(b []byte) []byte { return packed.Value(b, c.v) })
	}
}

// P1: texts and values that are too long or not valid end too; what comes out isn't promised, but stays behind b.
func TestPutWrong(t *testing.T) {
	long := strings.Repeat("x", 70000)
	for i, v := range []value.Value{
		{N: 5, S: "x"}, {Kind: value.Bool, N: -1}, {Kind: value.Bool, N: 300}, {Kind: value.Int, S: "x"},
		{Kind: value.Bytes, N: 1}, value.Text(long[:4097]), value.Text(long), {Kind: 4}, {Kind: 255, N: 1, S: "x"},
	} {
		if b := packed.Value([]byte{1, 2}, v); !bytes.HasPrefix(b, []byte{1, 2}) {
			t.Errorf("value %d: the beginning is lost", i)
		}
	}
	if b := packed.Text([]byte{1, 2}, long); !bytes.HasPrefix(b, []byte{1, 2}) {
		t.Error("a long text: the beginning is lost")
	}
}

// P2: the same call has the same result, whatever was put ahead of it.
func TestPutOnOneBeginning(t *testing.T) {
	b := packed.Put(nil, 5, 1)
	one := packed.Put(b, 1, 1)
	two := packed.Text(b, "two")
	three := packed.Value(b, value.Number(3))
	if !bytes.Equal(b, []byte{5}) || !bytes.Equal(one, []byte{5, 1}) ||
		!bytes.Equal(two, []byte{5, 3, 0, 't', 'w', 'o'}) ||
		!bytes.Equal(three, []byte{5, 2, 3, 0, 0, 0, 0, 0, 0, 0}) {
		t.Error("what was put behind one beginning is mixed up:", b, one, two, three)
	}
}
