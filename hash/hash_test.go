package hash_test

import (
	"math"
	"slices"
	"strings"
	"sync"
	"testing"

	"easement/hash"
	"easement/value"
)

// seeds are those that the tables of hashes are for, in their order.
func seeds() [4]uint64 {
	return [4]uint64{0, 1, 0x0123456789abcdef, math.MaxUint64}
}

// known is what a value is hashed to, for each of the seeds.
type known struct {
	name string
	v    value.Value
	want [4]uint64
}

// values holds values of each kind with their hashes, which were worked out by another program.
func values() []known {
	full := strings.Repeat("x", 4096)
	return []known{
		{"nil", value.Value{}, [4]uint64{0x4a08c95571fdd011, 0xa218c76180fa67d7, 0x5eba0d04f56ae22a, 0x3b4931c12de287d1}},
		{"false", value.Truth(false), [4]uint64{0x3cb7beef51a29de6, 0x2d5504716af34bda, 0x9c1f632d6db76f10, 0x89b7ac0c77996fc7}},
		{"true", value.Truth(true), [4]uint64{0x189bd571c18e99b4, 0xecb81f6ac171d9cf, 0x36ada9e014b276f5, 0xdd719060a19b715b}},
		{"0", value.Number(0), [4]uint64{0xf0878ca33f51f731, 0x36aa7e14a716b687, 0x08bcd77843cabaad, 0xcbb2860da064d8ae}},
		{"1", value.Number(1), [4]uint64{0x94450b376cae68cd, 0x00d0cbc5e8453940, 0x715324295153941c, 0x7d9740975e8458cd}},
		{"-2", value.Number(-2), [4]uint64{0xc158b2b44a1a518f, 0xc82fc40149a71733, 0x937adf923ce5dc18, 0x8f1cf5e757b66284}},
		{"eight other bytes", value.Number(0x0102030405060708), [4]uint64{0x3681be95b85f07e3, 0x86f4c7c3e4a32b66, 0x8a7c3786aa3f0de5, 0x0dbc1c3821acaa2f}},
		{"least int", value.Number(math.MinInt64), [4]uint64{0x845876507209cc07, 0x3d890890bfe6570e, 0x88e2e991a87d6441, 0x7cf5ccd7c181520e}},
		{"greatest int", value.Number(math.MaxInt64), [4]uint64{0x011b9b8547285d38, 0x04268893a8ad0327, 0xedede097891b746a, 0x45d4fff9e38e6968}},
		{"no bytes", value.Text(""), [4]uint64{0xf83ce04de8b89a3a, 0xdb8b1e93071824ee, 0xd8190487e4be437e, 0xf9226339169992ad}},
		{"a", value.Text("a"), [4]uint64{0xde98e08aa764aec9, 0x62acd9bb463a892c, 0xd14f1bdfbce329a0, 0xa81e85458ff6ae6f}},
		{"bytes that are no text", value.Text("\x00\xff\xc3"), [4]uint64{0x814decea34f0574b, 0x0b69eb10338da4a4, 0x2c4423b6975e064f, 0x83c67b98c4f52cc5}},
		{"255 bytes", value.Text(full[:255]), [4]uint64{0xc75327441481a7fc, 0x7800bc4ae29cd47f, 0x101913655c37c99e, 0x3bb2a5a6161d241c}},
		{"256 bytes", value.Text(full[:256]), [4]uint64{0xdc494e9bff12c48b, 0xa701e629c3d1e9cb, 0x2744f4f6e5f2309c, 0xb3dad5ab9aa43bc3}},
		{"4095 bytes", value.Text(full[:4095]), [4]uint64{0xf3fe841bb53e309a, 0x90ae57f856779568, 0xbf480f28a81f328d, 0x09726606fdc3921b}},
		{"4096 bytes", value.Text(full), [4]uint64{0xa1d1cbd010eca956, 0xba3658299e4cbce6, 0x2fec2220c3e7938e, 0xdf5f693511bdbebb}},
	}
}

// P3.1: Mix, of numbers whose results are known.
func TestMix(t *testing.T) {
	for _, c := range []struct{ n, want uint64 }{
		{0, 0},
		{1, 0x5692161d100b05e5},
		{2, 0xdbd238973a2b148a},
		{1 << 30, 0x2ba0091cc9e3ceff},
		{1 << 31, 0xec105bf588587c9f},
		{1 << 63, 0x25c26ea579cea98a},
		{math.MaxUint64, 0xb4d055fcf2cbbd7b},
		{0x0123456789abcdef, 0xb2c058e4ebb5112c},
		{0x9e3779b97f4a7c15, 0xe220a8397b1dcdaf},
		{0x3c6ef372fe94f82a, 0x6e789e6aa1b965f4},
		{0xdaa66d2c7ddf743f, 0x06c45d188009454f},
	} {
		for range 2 {
			if got := hash.Mix(c.n); got != c.want {
				t.Errorf("Mix(%#x) is %#x, want %#x", c.n, got, c.want)
			}
		}
	}
}

// unshift finds the number whose exclusive or with itself shifted right is n.
func unshift(n uint64, by int) uint64 {
	out := n
	for range 64 / by {
		out = n ^ out>>by
	}
	return out
}

// unmix finds the number that is mixed to n; its factors undo those of Mix.
func unmix(n uint64) uint64 {
	n = unshift(n, 31) * 0x319642b2d24d8ec3
	n = unshift(n, 27) * 0x96de1b173f119089
	return unshift(n, 30)
}

// P3.2: every number comes back from what it is mixed to, and is what some number is mixed to.
func TestMixIsBijection(t *testing.T) {
	for i := range uint64(1 << 16) {
		for _, n := range []uint64{i, -i, i << 16, i << 32, i << 48, i * 0x9e3779b97f4a7c15} {
			if got := unmix(hash.Mix(n)); got != n {
				t.Fatalf("%#x and %#x are mixed to one number", n, got)
			}
			if got := hash.Mix(unmix(n)); got != n {
				t.Fatalf("nothing is mixed to %#x", n)
			}
		}
	}
}

// P3.2: no two of many neighbours are mixed to one number.
func TestMixKeepsApart(t *testing.T) {
	var l []uint64
	for i := range uint64(1 << 16) {
		l = append(l, hash.Mix(i), hash.Mix(math.MaxUint64-i))
	}
	slices.Sort(l)
	if n := len(slices.Compact(l)); n != 1<<17 {
		t.Errorf("%d numbers are mixed to %d", 1<<17, n)
	}
}

// P3.1: Of, for values of each kind and for each seed, with the same result the second time.
func TestOf(t *testing.T) {
	for i, s := range seeds() {
		h := hash.New(s)
		for range 2 {
			for _, c := range values() {
				if got := h.Of(c.v); got != c.want[i] {
					t.Errorf("seed %#x: Of(%s) is %#x, want %#x", s, c.name, got, c.want[i])
				}
			}
		}
	}
}

// P3.1: a value's hash is that of its bytes, wherever the bytes are kept.
func TestOfSameBytes(t *testing.T) {
	h := hash.New(7)
	s := strings.Repeat("ab", 2048)
	if h.Of(value.Text(s)) != h.Of(value.Text(strings.Clone(s))) {
		t.Error("equal values have two hashes")
	}
}

// P3.1: All, of no value, of one, and of several in one order and in another.
func TestAll(t *testing.T) {
	none, no, two, a := value.Value{}, value.Truth(false), value.Number(-2), value.Text("a")
	cases := []struct {
		name string
		l    []value.Value
		want [4]uint64
	}{
		{"none", nil, [4]uint64{0xe220a8397b1dcdaf, 0x910a2dec89025cc1, 0x157a3807a48faa9d, 0xe4d971771b652c20}},
		{"empty", []value.Value{}, [4]uint64{0xe220a8397b1dcdaf, 0x910a2dec89025cc1, 0x157a3807a48faa9d, 0xe4d971771b652c20}},
		{"nil", []value.Value{none}, [4]uint64{0x0a23a1fd4df4d3e3, 0xcc7bdf58e03ee42d, 0x968711561d9e8a00, 0x64df701bef3143b3}},
		{"a", []value.Value{a}, [4]uint64{0xffb7c5a8f131ab7b, 0x4e2d04002630029c, 0x15a6bf8e307b780e, 0xc94db2859bdb7a2b}},
		{"-2 a", []value.Value{two, a}, [4]uint64{0x4a91d9b97e715a95, 0x758fe9078aa97fe8, 0x7d21f6ea136ec937, 0x58d48a80c43bc170}},
		{"a -2", []value.Value{a, two}, [4]uint64{0xfe4cf270cdad235a, 0x53c4caf13733806f, 0xdafaf242f1766e43, 0xc2be182e930ff7db}},
		{"nil nil", []value.Value{none, none}, [4]uint64{0x175871f2063688a3, 0x28b034922e66e06d, 0x052b6f4493455e68, 0xedcc5ffae6f37497}},
		{"nil nil nil", []value.Value{none, none, none}, [4]uint64{0x25200f86f1f389b5, 0x887a84fd6808a170, 0x4656ebacf6665d68, 0x7fc609ac647b21a2}},
		{"nil false -2 a", []value.Value{none, no, two, a}, [4]uint64{0x489b528e556185cc, 0xf55e0134e25f933e, 0xcd56aca2907d947d, 0x6d85a5bfc6fb9795}},
		{"a -2 false nil", []value.Value{a, two, no, none}, [4]uint64{0xc285e360b5dfbc1e, 0x238c3e82f3177284, 0xfe8317f04cee08e9, 0xad898fef299bc48d}},
		{"4096 bytes and none", []value.Value{value.Text(strings.Repeat("x", 4096)), value.Text("")}, [4]uint64{0x31838b0020ad0697, 0x18be07e57eba4218, 0x8de37c68550f2aab, 0x248c0c03a05647b7}},
	}
	for i, s := range seeds() {
		h := hash.New(s)
		for range 2 {
			for _, c := range cases {
				if got := h.All(c.l...); got != c.want[i] {
					t.Errorf("seed %#x: All(%s) is %#x, want %#x", s, c.name, got, c.want[i])
				}
			}
		}
	}
}

// P3.1: All is made of the key and of the hashes, value by value, as far as a list goes.
func TestAllStepByStep(t *testing.T) {
	var l []value.Value
	for _, c := range values() {
		l = append(l, c.v)
	}
	for _, s := range []uint64{2, 1 << 63, 0x61c8864680b583eb} {
		h := hash.New(s)
		want := hash.Mix(s + 0x9e3779b97f4a7c15)
		for n := range l {
			if got := h.All(l[:n]...); got != want {
				t.Fatalf("seed %#x: All of %d values is %#x, want %#x", s, n, got, want)
			}
			want = hash.Mix(want ^ h.Of(l[n]))
		}
	}
}

// P3.1: a nil hasher returns 0, whatever it is handed.
func TestNilHasher(t *testing.T) {
	var h *hash.Hasher
	for _, c := range values() {
		if got := h.Of(c.v); got != 0 {
			t.Errorf("Of(%s) is %#x", c.name, got)
		}
		if got := h.All(c.v, c.v); got != 0 {
			t.Errorf("All of %s twice is %#x", c.name, got)
		}
	}
	if h.Of(value.Value{Kind: 4}) != 0 || h.All() != 0 || h.All(nil...) != 0 {
		t.Error("a nil hasher has a hash")
	}
}

// P2: hashers of one seed agree, whichever call needs the key first, and hashers of other seeds don't disturb them.
func TestTwoHashers(t *testing.T) {
	for _, s := range seeds() {
		one, two, other := hash.New(s), hash.New(s), hash.New(s+1)
		all := one.All()
		if other.All() == all {
			t.Errorf("seeds %#x and %#x have one key", s, s+1)
		}
		for _, c := range values() {
			of := one.Of(c.v)
			if other.Of(c.v) == of {
				t.Errorf("%s has one hash for the seeds %#x and %#x", c.name, s, s+1)
			}
			if two.Of(c.v) != of || hash.New(s).Of(c.v) != of || one.Of(c.v) != of {
				t.Errorf("seed %#x: %s has two hashes", s, c.name)
			}
			if one.All(c.v) != two.All(c.v) || one.All(c.v) != hash.New(s).All(c.v) {
				t.Errorf("seed %#x: the list of %s has two hashes", s, c.name)
			}
		}
		if one.All() != all || two.All() != all || hash.New(s).All() != all {
			t.Errorf("seed %#x has two keys", s)
		}
	}
}

// P1, P2: values that are not valid end too, with the same number each time; which one isn't promised.
func TestWrongValues(t *testing.T) {
	h, again := hash.New(3), hash.New(3)
	for i, v := range []value.Value{
		{N: 5, S: "x"}, {Kind: value.Bool, N: -1}, {Kind: value.Bool, N: 300}, {Kind: value.Int, S: "x"},
		{Kind: value.Bytes, N: 1}, value.Text(strings.Repeat("x", 4097)), value.Text(strings.Repeat("x", 70000)), {Kind: 4}, {Kind: 255, N: 1, S: "x"},
	} {
		if h.Of(v) != again.Of(v) || h.All(v, v) != again.All(v, v) {
			t.Errorf("value %d has two hashes", i)
		}
	}
}

// Rule 3: a list stays as it is, what lies behind its length doesn't count, and a later change of it doesn't either.
func TestArgumentsStay(t *testing.T) {
	l := []value.Value{value.Number(1), value.Text("two"), value.Truth(true), {Kind: 9, N: 9, S: "nine"}}
	kept := slices.Clone(l)
	h := hash.New(5)
	want := h.All(value.Number(1), value.Text("two"))
	if got := h.All(l[:2]...); got != want {
		t.Errorf("All looks behind the length: %#x, want %#x", got, want)
	}
	if got, none := h.All(l[:0]...), h.All(); got != none {
		t.Errorf("All of no value looks behind the length: %#x, want %#x", got, none)
	}
	if !slices.Equal(l, kept) {
		t.Error("what was handed in was changed")
	}
	clear(l)
	if got := h.All(kept[:2]...); got != want {
		t.Errorf("what was handed in was kept: %#x, want %#x", got, want)
	}
}

// P2: the key of a new hasher is the same for all that need it first at the same time.
func TestFirstNeedAtOnce(t *testing.T) {
	for i, s := range seeds() {
		h := hash.New(s)
		l := values()
		got := make([]uint64, len(l))
		var all sync.WaitGroup
		for k := range l {
			all.Go(func() { got[k] = h.Of(l[k].v) })
		}
		all.Wait()
		for k, c := range l {
			if got[k] != c.want[i] {
				t.Errorf("seed %#x: Of(%s) is %#x, want %#x", s, c.name, got[k], c.want[i])
			}
		}
	}
}
