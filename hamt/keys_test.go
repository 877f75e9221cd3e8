package hamt_test

import (
	"math"
	"testing"

	"easement/digit"
	"easement/hamt"
	"easement/hash"
	"easement/value"
)

// seed is that of all hashers here.
const seed = 7

// The numbers of the chapter of layer 3.
const (
	byteFactor   = 1099511628211
	firstFactor  = 13787848793156543929
	secondFactor = 10723151780598845931
	seedStep     = 11400714819323198485
)

// steered is how many bytes of a text are chosen so that its hash is the wanted one.
const steered = 14

// counted is how many bytes ahead of them make each text another one.
const counted = 3

// steps are linearly independent: each row has, for the steered bytes, changes of
// the hash ahead of the byte's factor that together change nothing.
func steps() [steered][steered]int64 {
	return [steered][steered]int64{
		{0, 5, -11, 3, -9, 11, -4, -1, 15, 8, 2, 11, -2, 6},
		{-5, 11, 0, -4, 7, 2, -17, -3, -15, 6, 2, -14, 3, -3},
		{1, -8, 2, 3, 1, 2, 10, 2, -15, -6, 20, -8, 8, 6},
		{-11, 2, 5, 8, 3, 12, 2, -18, 5, 6, 10, 6, 0, 14},
		{11, -3, 15, 0, -8, 4, 2, 16, 6, -12, -5, -9, -7, 2},
		{-12, -3, -4, 1, 2, -3, 2, 1, -2, -3, 2, 16, -13, 18},
		{-9, -13, 3, -4, 2, -7, -1, 20, -2, 0, -10, -7, 8, -2},
		{-2, -10, -13, -11, 4, 2, -3, -12, -15, -2, 10, 1, -13, 0},
		{3, -11, 0, 5, 2, 2, -7, -1, 12, -13, -7, 5, -11, -3},
		{2, -1, -5, -12, 13, 4, 12, 2, -6, -3, 5, 8, 0, 3},
		{-8, -10, 3, -2, -10, 8, -9, -8, 7, -4, 14, 6, 7, -2},
		{-2, 12, 7, 12, 8, 12, 2, -3, -17, -16, -1, -8, 7, 3},
		{12, -17, 2, -5, -13, -3, -3, 8, -8, 8, 9, 17, -3, 4},
		{-8, 11, -5, 11, 4, -5, -2, 5, 1, 8, 10, -2, -11, -19},
	}
}

// maker makes keys with the hashes that are wanted, none of them twice.
type maker struct {
	hasher *hash.Hasher
	rows   [steered][steered]int64
	planes [steered][steered]float64 // the rows, each without what it has of those ahead of it
	count  int
}

// dot is the scalar product.
func dot(a, b [steered]float64) float64 {
	sum := 0.0
	for i := range a {
		sum += a[i] * b[i]
	}
	return sum
}

// floats are whole numbers as floats.
func floats(l [steered]int64) [steered]float64 {
	var f [steered]float64
	for i := range l {
		f[i] = float64(l[i])
	}
	return f
}

// newMaker is a maker that has made no key.
func newMaker() *maker {
	m := &maker{hasher: hash.New(seed), rows: steps()}
	for i, row := range m.rows {
		f := floats(row)
		for j := range i {
			part := dot(floats(row), m.planes[j]) / dot(m.planes[j], m.planes[j])
			for k := range f {
				f[k] -= part * m.planes[j][k]
			}
		}
		m.planes[i] = f
	}
	return m
}

// inverse is the number with which an odd one multiplies to 1.
func inverse(n uint64) uint64 {
	x := n
	for range 6 {
		x *= 2 - n*x
	}
	return x
}

// unshift is the number whose exclusive or with itself shifted right is n.
func unshift(n uint64, by int) uint64 {
	x := n
	for range 64 / by {
		x = n ^ x>>by
	}
	return x
}

// unmix is the number that is mixed to n.
func unmix(n uint64) uint64 {
	n = unshift(n, 31) * inverse(secondFactor)
	n = unshift(n, 27) * inverse(firstFactor)
	return unshift(n, 30)
}

// least are small changes of the hash ahead of the factors of the steered bytes
// that together change it by n: those nearest to none.
func (m *maker) least(n uint64) [steered]int64 {
	var l [steered]int64
	l[steered-1] = int64(n * inverse(byteFactor))
	for range 3 { // again, as floats are not exact
		f := floats(l)
		for i := steered - 1; i >= 0; i-- {
			times := math.Round(dot(f, m.planes[i]) / dot(m.planes[i], m.planes[i]))
			for k, step := range m.rows[i] {
				f[k] -= times * float64(step)
				l[k] -= int64(times) * step
			}
		}
	}
	return l
}

// steer returns the bytes that lead from one number to another one.
func (m *maker) steer(from, to uint64) ([]byte, bool) {
	far := from
	for range steered {
		far *= byteFactor
	}
	var out []byte
	for _, change := range m.least(to - far) {
		low := int64(from%256) + change
		if low < 0 || low > 255 {
			return nil, false
		}
		out = append(out, byte(from)^byte(low))
		from = (from - from%256 + uint64(low)) * byteFactor
	}
	return out, from == to
}

// key is a text with the wanted hash, that was not made before.
func (m *maker) key(t *testing.T, want uint64) value.Value {
	t.Helper()
	for range 10000 {
		m.count++
		text := []byte{byte(m.count), byte(m.count >> 8), byte(m.count >> 16)}
		from := hash.Mix(seed + seedStep)
		for _, b := range append([]byte{3, counted + steered, 0}, text...) {
			from = (from ^ uint64(b)) * byteFactor
		}
		if more, ok := m.steer(from, unmix(want)); ok {
			k := value.Text(string(append(text, more...)))
			if m.hasher.Of(k) != want {
				t.Fatalf("a key has the hash %#x, want %#x", m.hasher.Of(k), want)
			}
			return k
		}
	}
	t.Fatalf("no key with the hash %#x is found", want)
	return value.Value{}
}

// keys are n keys with hashes that a function tells.
func keys(t *testing.T, n int, want func(i int) uint64) []value.Value {
	t.Helper()
	m := newMaker()
	var l []value.Value
	for i := range n {
		l = append(l, m.key(t, want(i)))
	}
	return l
}

// ordinary are n keys of all kinds.
func ordinary(_ *testing.T, n int) []value.Value {
	l := []value.Value{{}, value.Truth(false), value.Text(""), value.Number(math.MinInt64), value.Truth(true), value.Number(-1)}
	for i := range n {
		l = append(l, value.Number(int64(i)), value.Text(string(rune('a'+i%26))+string(rune(i))))
	}
	return l[:n]
}

// base is a hash that others have digits in common with.
const base = 0xd1b54a32d192ed03

// sameHash are n keys with one hash.
func sameHash(t *testing.T, n int) []value.Value {
	return keys(t, n, func(int) uint64 { return base })
}

// fewHashes are n keys with five hashes, two of which have twelve digits in common.
func fewHashes(t *testing.T, n int) []value.Value {
	l := []uint64{base, base ^ 1<<60, base ^ 1<<30, ^uint64(base), base ^ 3}
	return keys(t, n, func(i int) uint64 { return l[i%len(l)] })
}

// everyLevel are n keys whose hashes part from that of the first one at each level, at which each has one of some digits.
func everyLevel(t *testing.T, n int) []value.Value {
	return keys(t, n, func(i int) uint64 {
		return base ^ uint64((i/digit.Deep+1)%digit.Wide)<<(i%digit.Deep*digit.Bits)
	})
}

// twins are n keys, of which two and two differ in the last digit alone.
func twins(t *testing.T, n int) []value.Value {
	return keys(t, n, func(i int) uint64 { return hash.Mix(uint64(i/2)) ^ uint64(i%2)<<63 })
}

// triplets are n keys, of which three and three differ in the digits of two levels alone, one behind the other.
func triplets(t *testing.T, n int) []value.Value {
	return keys(t, n, func(i int) uint64 {
		last := digit.Bits * (1 + i/3%(digit.Deep-1))
		return hash.Mix(uint64(i/3)) ^ []uint64{0, 1, 1 << digit.Bits}[i%3]<<(last-digit.Bits)
	})
}

// family is a way to make keys, with a name.
type family struct {
	name string
	make func(t *testing.T, n int) []value.Value
}

// families are all that there are.
func families() []family {
	return []family{
		{"ordinary", ordinary},
		{"with one hash", sameHash},
		{"with few hashes", fewHashes},
		{"parting at every level", everyLevel},
		{"twins", twins},
		{"triplets", triplets},
	}
}

// inCommon is how many of the lowest digits of two hashes are the same.
func inCommon(g, h uint64) int {
	n := 0
	for n < digit.Deep && digit.At(g, n) == digit.At(h, n) {
		n++
	}
	return n
}

// nearest are, for each of some keys, how many of the lowest digits of its hash another one has too, at most; and how many keys there are of each number.
func nearest(x hamt.Land, l []value.Value) map[int]int {
	out := map[int]int{}
	for i, k := range l {
		most := 0
		for j, other := range l {
			if i != j {
				most = max(most, inCommon(x.Of(k), x.Of(other)))
			}
		}
		out[most]++
	}
	return out
}

// The keys are what the other tests take them for: all different, with hashes that have so many digits in common.
func TestKeys(t *testing.T) {
	const n = 130
	x := land(t, 1)
	near := map[string]map[int]int{}
	for _, f := range families() {
		seen := map[value.Value]bool{}
		l := f.make(t, n)
		for i, k := range l {
			if !k.Right() || seen[k] {
				t.Fatalf("%s: key %d is not valid, or is there twice", f.name, i)
			}
			seen[k] = true
		}
		near[f.name] = nearest(x, l)
	}
	if near["with one hash"][13] != n || near["with few hashes"][13] != n || near["twins"][12] != n {
		t.Errorf("hashes have other digits in common: %v", near)
	}
	for level := range digit.Deep {
		if near["parting at every level"][level] == 0 || level > 0 && near["triplets"][level] == 0 {
			t.Errorf("no hashes part at level %d: %v", level, near)
		}
	}
}
