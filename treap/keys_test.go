package treap_test

import (
	"encoding/binary"
	"fmt"
	"math"
	"slices"
	"testing"

	"easement/api"
	"easement/hash"
	"easement/value"
)

// seed is that of all hashers here.
const seed = 7

// The numbers of the chapter of layer 3.
const (
	byteFactor = 1099511628211
	seedStep   = 11400714819323198485
)

// alikeLen is how many bytes the texts with one hash have.
const alikeLen = 250

// step is the state of a hash behind one byte more.
func step(state uint64, b byte) uint64 { return (state ^ uint64(b)) * byteFactor }

// twin is fourteen bytes that lead from a state to the one to which as many zeros
// lead: what each of them adds to the state, or takes from it, together is nothing.
func twin(state uint64, sign int) ([]byte, bool) {
	var l []byte
	for _, change := range []int{1, -8, 2, 3, 1, 2, 10, 2, -15, -6, 20, -8, 8, 6} {
		low := int(state%256) + sign*change
		if low < 0 || low > 255 {
			return nil, false
		}
		l = append(l, byte(state)^byte(low))
		state = step(state, l[len(l)-1])
	}
	return l, true
}

// alike are n texts with one hash, another one for each group. Each part of them is
// either zeros or a twin of as many zeros, and one more part makes twice as many texts.
func alike(group byte, n int) []value.Value {
	state := hash.Mix(seed + seedStep)
	for _, b := range []byte{byte(value.Bytes), alikeLen % 256, alikeLen / 256, group} {
		state = step(state, b)
	}
	texts := []string{string([]byte{group})}
	for len(texts) < n {
		other, ok := twin(state, 1)
		if !ok {
			other, ok = twin(state, -1)
		}
		zeros := make([]byte, 1)
		if ok {
			zeros = make([]byte, len(other))
		}
		for i := range texts {
			if ok {
				texts = append(texts, texts[i]+string(other))
			}
			texts[i] += string(zeros)
		}
		for _, b := range zeros {
			state = step(state, b)
		}
	}
	var l []value.Value
	for _, s := range texts[:n] {
		l = append(l, value.Text(s+string(make([]byte, alikeLen-len(s)))))
	}
	return l
}

// oneHash are n keys with one hash.
func oneHash(n int) []value.Value { return alike(1, n) }

// fewHashes are n keys of which many have the same hash, and others their own.
func fewHashes(n int) []value.Value {
	own := ordinary(n/4 + 1)
	rest := [][]value.Value{alike(1, n/4+1), alike(2, n/4+1), alike(3, n/4+1)}
	var l []value.Value
	for i, k := range own {
		l = append(l, k)
		for _, same := range rest {
			l = append(l, same[i])
		}
	}
	return l[:n]
}

// ordinary are n keys of all kinds.
func ordinary(n int) []value.Value {
	l := []value.Value{
		value.Number(-1), {}, value.Truth(true), value.Number(math.MaxInt64), value.Truth(false), value.Number(math.MinInt64),
		value.Text("\xff\xfe"), value.Text(""), value.Text("\x00"), value.Text(string(make([]byte, api.MaxBytes))),
	}
	for i := range n {
		l = append(l, value.Text(fmt.Sprint("key ", i)), value.Number(int64(i)))
	}
	return l[:n]
}

// steered are n keys in their order. The hash of each is in that part of all
// hashes, of n parts, that a function tells for its place.
func steered(n int, part func(i int) int) []value.Value {
	h := hash.New(seed)
	size := math.MaxUint64 / uint64(n)
	var l []value.Value
	for i := range n {
		for count := uint32(0); ; count++ {
			k := value.Text(string(binary.BigEndian.AppendUint32([]byte{byte(i >> 8), byte(i)}, count)))
			if h.Of(k)/size == uint64(part(i)) {
				l = append(l, k)
				break
			}
		}
	}
	return l
}

// rising are n keys of which each has a greater hash than those ahead of it.
func rising(n int) []value.Value { return steered(n, func(i int) int { return i }) }

// falling are n keys of which each has a lesser hash than those ahead of it.
func falling(n int) []value.Value { return steered(n, func(i int) int { return n - 1 - i }) }

// inward are n keys whose hashes fall from both ends to the middle, by turns.
func inward(n int) []value.Value {
	return steered(n, func(i int) int { return n - 1 - min(2*i, 2*(n-1-i)+1) })
}

// family is a way to make keys, with a name.
type family struct {
	name string
	make func(n int) []value.Value
}

// families are all that there are.
func families() []family {
	return []family{
		{"ordinary", ordinary},
		{"with one hash", oneHash},
		{"with few hashes", fewHashes},
		{"with rising hashes", rising},
		{"with falling hashes", falling},
		{"with hashes that fall inward", inward},
	}
}

// each runs a test for each family, beside all others.
func each(t *testing.T, do func(t *testing.T, f family)) {
	t.Parallel()
	for _, f := range families() {
		t.Run(f.name, func(t *testing.T) {
			t.Parallel()
			do(t, f)
		})
	}
}

// ordered are keys in their order.
func ordered(l []value.Value) []value.Value {
	return slices.SortedFunc(slices.Values(l), value.Compare)
}

// shuffled are keys in another order, always the same one.
func shuffled(l []value.Value) []value.Value {
	l = slices.Clone(l)
	next := random(uint64(len(l)))
	for i := range l {
		j := i + next(len(l)-i)
		l[i], l[j] = l[j], l[i]
	}
	return l
}

// arrangement is an order of keys, with a name.
type arrangement struct {
	name string
	of   func(l []value.Value) []value.Value
}

// arrangements are rising, falling and mixed order.
func arrangements() []arrangement {
	return []arrangement{
		{"rising", ordered},
		{"falling", func(l []value.Value) []value.Value {
			l = ordered(l)
			slices.Reverse(l)
			return l
		}},
		{"mixed", shuffled},
	}
}

// random returns numbers that follow from a first one alone.
func random(n uint64) func(below int) int {
	return func(below int) int {
		n = n*6364136223846793005 + 1442695040888963407
		return int(n >> 33 % uint64(below))
	}
}

// hashes are those of keys.
func hashes(l []value.Value) []uint64 {
	var out []uint64
	for _, k := range l {
		out = append(out, hash.New(seed).Of(k))
	}
	return out
}

// The keys are what the other tests take them for: valid, all different, and with the hashes that they should have.
func TestKeys(t *testing.T) {
	for _, f := range families() {
		for _, n := range []int{1, 2, 33, 1026} {
			l := f.make(n)
			if len(l) != n || len(slices.Compact(ordered(l))) != n || !value.All(l...) {
				t.Fatalf("%s: there are %d keys, not %d different and valid ones", f.name, len(l), n)
			}
		}
	}
	count := map[uint64]int{}
	for _, h := range hashes(oneHash(1026)) {
		count[h]++
	}
	if len(count) != 1 {
		t.Errorf("1026 keys with one hash have %d", len(count))
	}
	clear(count)
	for _, h := range hashes(fewHashes(500)) {
		count[h]++
	}
	if len(count) != 128 {
		t.Errorf("500 keys with few hashes have %d", len(count))
	}
	if l := hashes(rising(200)); !slices.IsSorted(l) {
		t.Error("the hashes don't rise")
	}
	l := hashes(falling(200))
	slices.Reverse(l)
	if !slices.IsSorted(l) {
		t.Error("the hashes don't fall")
	}
	l = hashes(inward(201))
	for i := range 100 {
		if l[i] < l[200-i] || l[200-i] < l[i+1] {
			t.Error("the hashes don't fall inward")
		}
	}
}
