package rights_test

import (
	"fmt"
	"reflect"
	"testing"

	"easement/api"
	"easement/rights"
)

// valid are the texts of the rights 0 to 31, written out.
var valid = [32]string{
	"-----", "r----", "-d---", "rd---", "--t--", "r-t--", "-dt--", "rdt--",
	"---g-", "r--g-", "-d-g-", "rd-g-", "--tg-", "r-tg-", "-dtg-", "rdtg-",
	"----v", "r---v", "-d--v", "rd--v", "--t-v", "r-t-v", "-dt-v", "rdt-v",
	"---gv", "r--gv", "-d-gv", "rd-gv", "--tgv", "r-tgv", "-dtgv", "rdtgv",
}

// bits tells of a number which of its eight bits are set, from the lowest one on.
func bits(n int) (l [8]bool) {
	for i := range l {
		l[i] = n%2 == 1
		n /= 2
	}
	return l
}

// contains tells whether each bit of want is one of have, bit by bit.
func contains(have, want int) bool {
	h, w := bits(have), bits(want)
	for i := range h {
		if w[i] && !h[i] {
			return false
		}
	}
	return true
}

// known tells whether a number has no bit beyond the five.
func known(n int) bool {
	l := bits(n)
	return !l[5] && !l[6] && !l[7]
}

// attenuates fails unless Attenuate returns these.
func attenuates(t *testing.T, have, want, result rights.Set, e api.Errno) {
	t.Helper()
	if s, f := rights.Attenuate(have, want); s != result || f != e {
		t.Errorf("Attenuate(%d, %d) is %d, %d, not %d, %d", have, want, s, f, result, e)
	}
}

// The example of the chapter.
func TestExample(t *testing.T) {
	if text := (rights.Read | rights.Delegate).Text(); text != "r--g-" {
		t.Errorf("the text of Read and Delegate is %q", text)
	}
	if s, e := rights.Parse("r--g-"); s != rights.Read|rights.Delegate || e != api.OK {
		t.Errorf("Parse of r--g- is %d, %d", s, e)
	}
}

// P16.1: each right is a bit, from the lowest one on, and All is the five of them.
func TestValues(t *testing.T) {
	for i, s := range []rights.Set{rights.Read, rights.Derive, rights.Thaw, rights.Delegate, rights.Revoke} {
		if want := []rights.Set{1, 2, 4, 8, 16}[i]; s != want {
			t.Errorf("right %d is %d, not %d", i, s, want)
		}
	}
	if rights.All != 31 {
		t.Errorf("All is %d", rights.All)
	}
}

// The rights are of the type Set, which is a byte.
func TestTypes(t *testing.T) {
	for _, x := range []any{rights.Read, rights.Derive, rights.Thaw, rights.Delegate, rights.Revoke, rights.All} {
		if _, ok := x.(rights.Set); !ok {
			t.Errorf("%v is a %T", x, x)
		}
	}
	if k := reflect.TypeFor[rights.Set]().Kind(); k != reflect.Uint8 {
		t.Errorf("a Set is a %v", k)
	}
}

// P16.1: Right of each of the 256 sets.
func TestRight(t *testing.T) {
	n := 0
	for i := range 256 {
		if got := rights.Set(i).Right(); got != known(i) {
			t.Errorf("Right of %08b is %t", i, got)
		}
		if rights.Set(i).Right() {
			n++
		}
	}
	if n != 32 {
		t.Errorf("%d sets are valid", n)
	}
	for _, s := range []rights.Set{0, rights.Read, rights.Revoke, rights.All} {
		if !s.Right() {
			t.Errorf("%d is not valid", s)
		}
	}
	for _, s := range []rights.Set{32, 64, 128, 33, 48, 63, 95, 159, 224, 255} {
		if s.Right() {
			t.Errorf("%d is valid", s)
		}
	}
}

// P16.1: Has of every two of the 256 sets.
func TestHas(t *testing.T) {
	for i := range 256 {
		for j := range 256 {
			if got := rights.Set(i).Has(rights.Set(j)); got != contains(i, j) {
				t.Errorf("%08b has %08b: %t", i, j, got)
			}
		}
	}
}

// P16.1: Has of no bits, of some of several, and of bits beyond the five.
func TestHasEdges(t *testing.T) {
	for _, c := range []struct {
		s, t rights.Set
		want bool
	}{
		{0, 0, true},
		{rights.All, 0, true},
		{rights.Read, 0, true},
		{32, 0, true},
		{0, rights.Read, false},
		{0, rights.All, false},
		{rights.All, rights.All, true},
		{rights.All, rights.Revoke, true},
		{rights.Read, rights.All, false},
		{rights.Read, rights.Read | rights.Derive, false},
		{rights.Read | rights.Derive, rights.Read, true},
		{rights.Read | rights.Derive, rights.Derive | rights.Thaw, false},
		{rights.All, 32, false},
		{rights.All, 128, false},
		{rights.All, rights.Read | 64, false},
		{0, 32, false},
		{32, 32, true},
		{32, 64, false},
		{224, 96, true},
		{rights.Read | 128, rights.Read, true},
		{rights.Read | 128, rights.Read | 128, true},
		{rights.Read | 128, rights.Derive | 128, false},
		{255, 255, true},
		{255, 0, true},
		{254, 1, false},
		{127, 128, false},
	} {
		if got := c.s.Has(c.t); got != c.want {
			t.Errorf("%08b has %08b: %t", c.s, c.t, got)
		}
	}
}

// P16.1: Attenuate of every two of the 256 sets.
func TestAttenuate(t *testing.T) {
	const delegate = 3 // the place of its bit
	for i := range 256 {
		for j := range 256 {
			have, want := rights.Set(i), rights.Set(j)
			switch {
			case !known(i) || !known(j):
				attenuates(t, have, want, 0, api.ErrArg)
			case !bits(i)[delegate] || !contains(i, j):
				attenuates(t, have, want, 0, api.ErrRight)
			default:
				attenuates(t, have, want, want, api.OK)
			}
		}
	}
}

// P16.1: Attenuate, case by case.
func TestAttenuateEdges(t *testing.T) {
	const r, d, h, g, v, all = rights.Read, rights.Derive, rights.Thaw, rights.Delegate, rights.Revoke, rights.All
	for _, c := range []struct {
		what       string
		have, want rights.Set
		result     rights.Set
		e          api.Errno
	}{
		{"fewer rights", r | d | g, r, r, api.OK},
		{"fewer rights, of all", all, r | h | v, r | h | v, api.OK},
		{"Delegate alone is wanted", r | g, g, g, api.OK},
		{"the same rights", r | g, r | g, r | g, api.OK},
		{"all rights", all, all, all, api.OK},
		{"all but Delegate", all, all - g, all - g, api.OK},
		{"no rights", r | g, 0, 0, api.OK},
		{"no rights, of Delegate alone", g, 0, 0, api.OK},
		{"Delegate of Delegate alone", g, g, g, api.OK},
		{"one right that is lacking", r | g, d, 0, api.ErrRight},
		{"one of two that is lacking", r | g, r | d, 0, api.ErrRight},
		{"one more than there are", all - v, all, 0, api.ErrRight},
		{"a right of Delegate alone", g, r, 0, api.ErrRight},
		{"have lacks Delegate", r | d, r, 0, api.ErrRight},
		{"have lacks Delegate alone", all - g, r, 0, api.ErrRight},
		{"have lacks Delegate, the same rights", all - g, all - g, 0, api.ErrRight},
		{"have lacks Delegate, which is wanted", r, g, 0, api.ErrRight},
		{"have lacks Delegate, no rights", r, 0, 0, api.ErrRight},
		{"have has none, no rights", 0, 0, 0, api.ErrRight},
		{"have has none, all rights", 0, all, 0, api.ErrRight},
		{"have is not valid", all | 32, r, 0, api.ErrArg},
		{"have is not valid, and lacks Delegate", 64, r, 0, api.ErrArg},
		{"have is not valid, and lacks a right", g | 128, r, 0, api.ErrArg},
		{"have is not valid, no rights", g | 128, 0, 0, api.ErrArg},
		{"want is not valid", all, r | 32, 0, api.ErrArg},
		{"want is not valid, with no right", all, 128, 0, api.ErrArg},
		{"want is not valid, have lacks Delegate", r, r | 64, 0, api.ErrArg},
		{"want is not valid, have has none", 0, 32, 0, api.ErrArg},
		{"want is not valid, with all rights", all, 255, 0, api.ErrArg},
		{"neither is valid", g | 32, 32, 0, api.ErrArg},
		{"neither is valid, the same bits", 255, 255, 0, api.ErrArg},
	} {
		t.Run(c.what, func(t *testing.T) {
			attenuates(t, c.have, c.want, c.result, c.e)
		})
	}
}

// P16.1: what Attenuate returns is never more than there was, and it can be returned again.
func TestAttenuateNeverAdds(t *testing.T) {
	for i := range 256 {
		for j := range 256 {
			have, want := rights.Set(i), rights.Set(j)
			s, e := rights.Attenuate(have, want)
			if !have.Has(s) || !want.Has(s) {
				t.Errorf("Attenuate(%08b, %08b) is %08b", have, want, s)
			}
			if e == api.OK && s.Has(rights.Delegate) {
				attenuates(t, s, s, s, api.OK)
			}
			if e == api.OK && !s.Has(rights.Delegate) {
				attenuates(t, s, 0, 0, api.ErrRight)
			}
		}
	}
}

// P16.1: Text of the 32 valid sets, and of the others, whose other bits do not matter.
func TestText(t *testing.T) {
	for i := range 256 {
		if text := rights.Set(i).Text(); text != valid[i%32] {
			t.Errorf("the text of %08b is %q, not %q", i, text, valid[i%32])
		}
	}
	for _, c := range []struct {
		s    rights.Set
		want string
	}{
		{0, "-----"},
		{rights.Read, "r----"},
		{rights.Derive, "-d---"},
		{rights.Thaw, "--t--"},
		{rights.Delegate, "---g-"},
		{rights.Revoke, "----v"},
		{rights.All, "rdtgv"},
		{rights.All - rights.Thaw, "rd-gv"},
		{32, "-----"},
		{224, "-----"},
		{255, "rdtgv"},
		{rights.Thaw | 128, "--t--"},
	} {
		if text := c.s.Text(); text != c.want {
			t.Errorf("the text of %08b is %q, not %q", c.s, text, c.want)
		}
	}
}

// P2: the same calls have the same results, whatever was called between them.
func TestSameCalls(t *testing.T) {
	var told [2]string
	for k := range told {
		for i := range 256 {
			s, other := rights.Set(i), rights.Set(i*37)
			a, e := rights.Attenuate(s, other)
			p, f := rights.Parse(s.Text())
			_, g := rights.Parse(s.Text() + other.Text())
			told[k] += fmt.Sprintln(s.Right(), s.Has(other), a, e, s.Text(), p, f, g)
		}
		rights.Attenuate(rights.All, rights.Set(k))
		rights.Parse(valid[k])
	}
	if told[0] != told[1] {
		t.Error("the same calls have other results")
	}
}
