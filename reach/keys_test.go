package reach_test

import (
	"cmp"
	"encoding/binary"
	"fmt"
	"math"
	"slices"
	"strings"
	"testing"

	"easement/api"
	"easement/hash"
	"easement/value"
)

// seed is that of all hashers here, but where another one is named.
const seed = 7

// order compares two keys as the chapter of layer 1 orders them.
func order(a, b value.Value) int {
	return cmp.Or(cmp.Compare(a.Kind, b.Kind), cmp.Compare(a.N, b.N), strings.Compare(a.S, b.S))
}

// ordinary are n keys of all kinds.
func ordinary(n int) []value.Value {
	l := []value.Value{
		value.Number(-1), {}, value.Truth(true), value.Number(math.MaxInt64), value.Truth(false), value.Number(math.MinInt64),
		value.Text("\xff\xfe"), value.Text(""), value.Text("\x00"), value.Text(string(make([]byte, api.MaxBytes))),
	}
	for i := range n {
		l = append(l, value.Text(fmt.Sprint("key ", i)), value.Number(int64(i)))
	}
	return l[:n]
}

// numbers are n numbers with others between them, some below 0.
func numbers(n int) []value.Value {
	var l []value.Value
	for i := range n {
		l = append(l, value.Number(int64(3*(i-n/3))))
	}
	return l
}

// texts are n texts, of which each is the beginning of some others, or begins with some.
func texts(n int) []value.Value {
	var l []value.Value
	for i := range n {
		l = append(l, value.Text(strings.Repeat("\x00", i/9%40)+strings.Repeat("\x7f", i%3)+strings.Repeat("\xff", i/3%3)+strings.Repeat("a", i/360)))
	}
	return l
}

// steered are n keys in their order, of which each has a greater hash than those
// ahead of it, so that the tree of them is one long chain.
func steered(n int) []value.Value {
	h := hash.New(seed)
	size := math.MaxUint64 / uint64(n+1)
	var l []value.Value
	for i := range n {
		for count := uint32(0); ; count++ {
			k := value.Text(string(binary.BigEndian.AppendUint32([]byte{byte(i >> 8), byte(i)}, count)))
			if h.Of(k)/size == uint64(i) {
				l = append(l, k)
				break
			}
		}
	}
	return l
}

// family is a way to make keys, with a name.
type family struct {
	name string
	make func(n int) []value.Value
}

// families are all that there are.
func families() []family {
	return []family{
		{"ordinary", ordinary},
		{"numbers", numbers},
		{"texts", texts},
		{"with rising hashes", steered},
	}
}

// each runs a test for each family, beside all others.
func each(t *testing.T, do func(t *testing.T, f family)) {
	t.Parallel()
	for _, f := range families() {
		t.Run(f.name, func(t *testing.T) {
			t.Parallel()
			do(t, f)
		})
	}
}

// ordered are keys in their order.
func ordered(l []value.Value) []value.Value {
	return slices.SortedFunc(slices.Values(l), order)
}

// shuffled are keys in another order, always the same one.
func shuffled(l []value.Value) []value.Value {
	l = slices.Clone(l)
	next := random(uint64(len(l)))
	for i := range l {
		j := i + next(len(l)-i)
		l[i], l[j] = l[j], l[i]
	}
	return l
}

// random returns numbers that follow from a first one alone.
func random(n uint64) func(below int) int {
	return func(below int) int {
		n = n*6364136223846793005 + 1442695040888963407
		return int(n >> 33 % uint64(below))
	}
}

// beside are the values next to a key, or near it, on both sides: of its kind, and of others, some of them not valid.
func beside(k value.Value) []value.Value {
	l := []value.Value{
		k,
		{Kind: k.Kind, N: k.N, S: k.S + "\x00"},
		{Kind: k.Kind + 1, N: k.N, S: k.S},
		{Kind: k.Kind - 1, N: k.N, S: k.S},
		{Kind: k.Kind, N: k.N - 1, S: k.S}, // of the least number, the greatest
		{Kind: k.Kind, N: k.N + 1, S: k.S},
	}
	if n := len(k.S); n > 0 {
		l = append(l, value.Value{Kind: k.Kind, N: k.N, S: k.S[:n-1]}, value.Value{Kind: k.Kind, N: k.N, S: k.S[:n-1] + string([]byte{k.S[n-1] - 1, 0xff})})
	}
	return l
}

// strays are values of all kinds, and such as are not valid.
func strays() []value.Value {
	l := ordinary(14)
	for _, kind := range []value.Kind{value.Nil, value.Bool, value.Int, value.Bytes, 4, 200, 255} {
		for _, n := range []int64{math.MinInt64, -1, 0, 1, 2, math.MaxInt64} {
			l = append(l, value.Value{Kind: kind, N: n}, value.Value{Kind: kind, N: n, S: "x"})
		}
	}
	return append(l, value.Text(strings.Repeat("\xff", api.MaxBytes)), value.Text(strings.Repeat("k", 70000)))
}

// sought are values to search for: those beside some keys, and strays.
func sought(l []value.Value) []value.Value {
	out := strays()
	for _, k := range l {
		out = append(out, beside(k)...)
	}
	return out
}

// few are the first and last of some keys, and others between.
func few(l []value.Value) []value.Value {
	var out []value.Value
	for i, k := range l {
		if i < 3 || i+3 > len(l) || i%(len(l)/8+1) == 0 {
			out = append(out, k)
		}
	}
	return out
}

// The keys are what the other tests take them for: valid, and all different.
func TestKeys(t *testing.T) {
	for _, f := range families() {
		for _, n := range []int{0, 1, 2, 33, 1024} {
			l := f.make(n)
			if len(l) != n || len(slices.Compact(ordered(l))) != n || !value.All(l...) {
				t.Errorf("%s: there are %d keys, not %d different and valid ones", f.name, len(l), n)
			}
		}
	}
	kinds := map[value.Kind]bool{}
	for _, k := range ordinary(14) {
		kinds[k.Kind] = true
	}
	if len(kinds) != 4 {
		t.Errorf("ordinary keys have %d kinds", len(kinds))
	}
	h := hash.New(seed)
	for l := steered(100); len(l) > 1; l = l[1:] {
		if order(l[0], l[1]) >= 0 || h.Of(l[0]) >= h.Of(l[1]) {
			t.Error("the keys, or their hashes, don't rise")
		}
	}
}
