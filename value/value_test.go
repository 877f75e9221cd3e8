package value_test

import (
	"cmp"
	"math"
	"slices"
	"strings"
	"testing"

	"easement/api"
	"easement/value"
)

// rising holds values of all kinds, also ones that are not valid, in their order.
func rising() []value.Value {
	var l []value.Value
	for _, k := range []value.Kind{value.Nil, value.Bool, value.Int, value.Bytes, 4, 127, 128, 255} {
		for _, n := range []int64{math.MinInt64, -256, -1, 0, 1, 2, 255, 256, math.MaxInt64} {
			for _, s := range []string{"", "\x00", "\x00\x00", "\x00b", "a", "a\x00", "ab", "b", "ba", "\x7f", "\x80", "\xc3\xa9", "\xff", "\xff\xff"} {
				l = append(l, value.Value{Kind: k, N: n, S: s})
			}
		}
	}
	return l
}

// again is the same text in other memory.
func again(s string) string { return strings.Clone(s) }

func TestKinds(t *testing.T) {
	for i, k := range []value.Kind{value.Nil, value.Bool, value.Int, value.Bytes} {
		if int(k) != i {
			t.Errorf("kind %d is numbered %d", i, k)
		}
	}
}

// P1.1: what Truth, Number and Text return.
func TestMade(t *testing.T) {
	for _, c := range []struct{ got, want value.Value }{
		{value.Truth(false), value.Value{Kind: value.Bool, N: 0}},
		{value.Truth(true), value.Value{Kind: value.Bool, N: 1}},
		{value.Number(0), value.Value{Kind: value.Int}},
		{value.Number(-1), value.Value{Kind: value.Int, N: -1}},
		{value.Number(math.MinInt64), value.Value{Kind: value.Int, N: math.MinInt64}},
		{value.Number(math.MaxInt64), value.Value{Kind: value.Int, N: math.MaxInt64}},
		{value.Text(""), value.Value{Kind: value.Bytes}},
		{value.Text("a\x00\xff"), value.Value{Kind: value.Bytes, S: "a\x00\xff"}},
	} {
		if c.got != c.want {
			t.Errorf("got %v, want %v", c.got, c.want)
		}
	}
}

// P1.1: a text that is too long is made all the same, and whole.
func TestTextTooLong(t *testing.T) {
	s := strings.Repeat("x", api.MaxBytes+1)
	if v := value.Text(s); v.Kind != value.Bytes || v.N != 0 || v.S != s {
		t.Error("a long text is not made as it is")
	}
}

// P1.1: which values are valid, kind by kind.
func TestRight(t *testing.T) {
	full := strings.Repeat("x", 4096)
	for _, c := range []struct {
		name string
		v    value.Value
		want bool
	}{
		{"nil", value.Value{}, true},
		{"nil with a number", value.Value{N: 1}, false},
		{"nil with a number below 0", value.Value{N: -1}, false},
		{"nil with bytes", value.Value{S: "x"}, false},
		{"nil with a zero byte", value.Value{S: "\x00"}, false},
		{"false", value.Truth(false), true},
		{"true", value.Truth(true), true},
		{"bool 2", value.Value{Kind: value.Bool, N: 2}, false},
		{"bool -1", value.Value{Kind: value.Bool, N: -1}, false},
		{"bool 256", value.Value{Kind: value.Bool, N: 256}, false},
		{"bool 1<<32", value.Value{Kind: value.Bool, N: 1 << 32}, false},
		{"false with bytes", value.Value{Kind: value.Bool, S: "x"}, false},
		{"true with bytes", value.Value{Kind: value.Bool, N: 1, S: "x"}, false},
		{"int 0", value.Number(0), true},
		{"least int", value.Number(math.MinInt64), true},
		{"greatest int", value.Number(math.MaxInt64), true},
		{"int with bytes", value.Value{Kind: value.Int, N: 7, S: "x"}, false},
		{"no bytes", value.Text(""), true},
		{"bytes that are no text", value.Text("\x00\xff\xfe"), true},
		{"4095 bytes", value.Text(full[1:]), true},
		{"4096 bytes", value.Text(full), true},
		{"4097 bytes", value.Text(full + "x"), false},
		{"9000 bytes", value.Text(strings.Repeat("x", 9000)), false},
		{"bytes with a number", value.Value{Kind: value.Bytes, N: 1, S: "x"}, false},
		{"bytes with a number below 0", value.Value{Kind: value.Bytes, N: -1}, false},
		{"4096 bytes with a number", value.Value{Kind: value.Bytes, N: 1, S: full}, false},
		{"kind 4", value.Value{Kind: 4}, false},
		{"kind 4 with a number", value.Value{Kind: 4, N: 1}, false},
		{"kind 4 with bytes", value.Value{Kind: 4, S: "x"}, false},
	} {
		if c.v.Right() != c.want {
			t.Errorf("%s: Right is %t", c.name, !c.want)
		}
		if value.All(c.v) != c.want {
			t.Errorf("%s: All is %t", c.name, !c.want)
		}
	}
}

// P1.1: the limit counts bytes, not the signs that they form.
func TestRightCountsBytes(t *testing.T) {
	if !value.Text(strings.Repeat("\xc3\xa9", 2048)).Right() {
		t.Error("4096 bytes of 2048 signs are not valid")
	}
	if value.Text(strings.Repeat("\xc3\xa9", 2049)).Right() {
		t.Error("4098 bytes of 2049 signs are valid")
	}
}

// P1.1: no kind above 3 is valid.
func TestRightKinds(t *testing.T) {
	for k := range 256 {
		v := value.Value{Kind: value.Kind(k)}
		if v.Right() != (k <= 3) {
			t.Errorf("kind %d: Right is %t", k, v.Right())
		}
	}
}

// P1.1: All of none is true; one value that is not valid is found wherever it is.
func TestAll(t *testing.T) {
	if !value.All() || !value.All(nil...) || !value.All([]value.Value{}...) {
		t.Error("All of no values is false")
	}
	good := []value.Value{{}, value.Truth(true), value.Number(-9), value.Text("x")}
	if !value.All(good...) {
		t.Error("All of valid values is false")
	}
	for i := range good {
		l := slices.Clone(good)
		l[i] = value.Value{Kind: 4}
		if value.All(l...) {
			t.Errorf("All is true with position %d not valid", i)
		}
	}
}

// P1.2: each pair of values, valid or not, is in the order of their places.
func TestCompare(t *testing.T) {
	l := rising()
	for i, a := range l {
		for k, b := range l {
			b.S = again(b.S)
			if got := value.Compare(a, b); got != cmp.Compare(i, k) {
				t.Fatalf("Compare(%v, %v) is %d", a, b, got)
			}
		}
	}
}

// P1.2: the kind decides ahead of the number, and the number ahead of the bytes.
func TestCompareWhatDecides(t *testing.T) {
	for _, c := range []struct {
		name string
		a, b value.Value
	}{
		{"kind ahead of number", value.Truth(true), value.Number(0)},
		{"kind ahead of bytes", value.Value{Kind: value.Int, S: "z"}, value.Text("a")},
		{"kind ahead of both", value.Value{N: 9, S: "z"}, value.Value{Kind: 255, N: -9}},
		{"number ahead of bytes", value.Value{Kind: value.Bytes, N: 1, S: "z"}, value.Value{Kind: value.Bytes, N: 2, S: "a"}},
		{"numbers far apart", value.Number(math.MinInt64), value.Number(math.MaxInt64)},
		{"numbers around 0", value.Number(-1), value.Number(0)},
		{"bytes above 127", value.Text("\x7f"), value.Text("\x80")},
		{"bytes ahead of length", value.Text("aaaa"), value.Text("b")},
		{"a beginning", value.Text("ab"), value.Text("ab\x00")},
		{"a beginning at the limit", value.Text(strings.Repeat("x", 4096)), value.Text(strings.Repeat("x", 4097))},
		{"the last byte", value.Text(strings.Repeat("x", 4095) + "a"), value.Text(strings.Repeat("x", 4095) + "b")},
		{"the last byte beyond the limit", value.Text(strings.Repeat("x", 9000) + "a"), value.Text(strings.Repeat("x", 9000) + "b")},
		{"kinds above 3", value.Value{Kind: 4, N: 5}, value.Value{Kind: 5}},
		{"nil first", value.Value{}, value.Truth(false)},
	} {
		if got := value.Compare(c.a, c.b); got != -1 {
			t.Errorf("%s: Compare is %d", c.name, got)
		}
		if got := value.Compare(c.b, c.a); got != 1 {
			t.Errorf("%s: Compare the other way is %d", c.name, got)
		}
	}
}

// P1.2: Lists, both ways round.
func TestLists(t *testing.T) {
	one, two, bad := value.Number(1), value.Number(2), value.Value{Kind: 4, N: 3, S: "x"}
	for _, c := range []struct {
		name string
		a, b []value.Value
		want int
	}{
		{"none", nil, nil, 0},
		{"nil and empty", nil, []value.Value{}, 0},
		{"none and one", nil, []value.Value{{}}, -1},
		{"empty and one that is not valid", []value.Value{}, []value.Value{bad}, -1},
		{"equal", []value.Value{one, value.Text("ab")}, []value.Value{one, value.Text(again("ab"))}, 0},
		{"equal, not valid", []value.Value{bad, bad}, []value.Value{bad, bad}, 0},
		{"a beginning", []value.Value{one}, []value.Value{one, {}}, -1},
		{"a longer beginning", []value.Value{one, two}, []value.Value{one, two, one, one, one}, -1},
		{"the first position", []value.Value{one, two}, []value.Value{two, one}, -1},
		{"a middle position", []value.Value{one, one, two}, []value.Value{one, two, one}, -1},
		{"the last position", []value.Value{one, one}, []value.Value{one, two}, -1},
		{"a value ahead of the length", []value.Value{one, one, one}, []value.Value{two}, -1},
		{"the last common position", []value.Value{one, one, two, two}, []value.Value{one, two}, -1},
		{"kinds", []value.Value{value.Truth(true)}, []value.Value{value.Number(0)}, -1},
		{"not valid by kind", []value.Value{value.Text("z")}, []value.Value{bad}, -1},
		{"not valid by bytes", []value.Value{bad}, []value.Value{{Kind: 4, N: 3, S: "xx"}}, -1},
		{"not valid by number", []value.Value{{N: -1}}, []value.Value{{}}, -1},
	} {
		if got := value.Lists(c.a, c.b); got != c.want {
			t.Errorf("%s: Lists is %d", c.name, got)
		}
		if got := value.Lists(c.b, c.a); got != -c.want {
			t.Errorf("%s: Lists the other way is %d", c.name, got)
		}
	}
}

// P1.2: lists of one value are in the order of their values.
func TestListsOfOne(t *testing.T) {
	l := rising()
	for i := range l {
		for k := range l {
			if got := value.Lists(l[i:i+1], l[k:k+1]); got != cmp.Compare(i, k) {
				t.Fatalf("Lists(%v, %v) is %d", l[i], l[k], got)
			}
		}
	}
}

// P1.3: exactly one case holds for two values, only equal ones are equal, and the order is transitive.
func TestTotal(t *testing.T) {
	var l []value.Value
	for i, v := range rising() {
		if i%7 == 0 {
			l = append(l, v)
		}
	}
	for _, a := range l {
		for _, b := range l {
			ab := value.Compare(a, b)
			if ab != -1 && ab != 0 && ab != 1 {
				t.Fatalf("Compare(%v, %v) is %d", a, b, ab)
			}
			if value.Compare(b, a) != -ab || (ab == 0) != (a == b) {
				t.Fatalf("more or less than one case holds for %v and %v", a, b)
			}
			for _, c := range l {
				if ab <= 0 && value.Compare(b, c) <= 0 && value.Compare(a, c) > 0 {
					t.Fatalf("not transitive: %v, %v, %v", a, b, c)
				}
			}
		}
	}
}

// P1.3: values that were turned round are sorted back.
func TestSorted(t *testing.T) {
	want := rising()
	got := slices.Clone(want)
	slices.Reverse(got)
	slices.SortFunc(got, value.Compare)
	if !slices.Equal(got, want) {
		t.Error("sorted values are not in their order")
	}
}

// P2, and rule 3: lists stay as they are, what lies behind their length doesn't count, and the same call has the same result.
func TestArgumentsStay(t *testing.T) {
	a := []value.Value{value.Number(1), value.Number(2), {Kind: 9}}
	b := []value.Value{value.Number(1), value.Number(2), value.Text("x")}
	wantA, wantB := slices.Clone(a), slices.Clone(b)
	for range 2 {
		if got := value.Lists(a[:2], b[:2]); got != 0 {
			t.Errorf("Lists looks behind the length: %d", got)
		}
		if !value.All(a[:2]...) {
			t.Error("All looks behind the length")
		}
		if got := value.Lists(a, b); got != 1 {
			t.Errorf("Lists is %d", got)
		}
	}
	if !slices.Equal(a, wantA) || !slices.Equal(b, wantB) {
		t.Error("a list was changed")
	}
}
