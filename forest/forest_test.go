package forest_test

import (
	"fmt"
	"math"
	"slices"
	"testing"

	"easement/api"
	"easement/draws"
	"easement/forest"
	"easement/rights"
)

// number is a handle by its number; that of 0 is zero.
func number(n int) draws.Handle { return draws.Handle{Low: uint64(n)} }

// root is an entry for Root.
func root(h draws.Handle, object int, s rights.Set, owner uint32) forest.Entry {
	return forest.Entry{Handle: h, Object: object, Rights: s, Owner: owner}
}

// all wants each entry.
func all(forest.Entry) bool { return true }

// numbers are the handles of entries.
func numbers(l []forest.Entry) (n []int) {
	for _, e := range l {
		n = append(n, int(e.Low))
	}
	return n
}

// is fails unless entries are those of some handles.
func is(t *testing.T, what string, l []forest.Entry, want ...int) {
	t.Helper()
	if got := numbers(l); !slices.Equal(got, want) {
		t.Errorf("%s is %v, not %v", what, got, want)
	}
}

// fails unless an error is the one that is wanted.
func fails(t *testing.T, what string, got, want api.Errno) {
	t.Helper()
	if got != want {
		t.Errorf("%s is %d, not %d", what, got, want)
	}
}

// grown is a forest of handles 1 to 9; the object of each is 7, or 8 where it is under 6. The owners are 1 to 4:
//
//	1 of 1          6 of 1
//	  2 of 2          7 of 3
//	    4 of 3          8 of 1
//	      5 of 2
//	  3 of 4        9 of 4
func grown(t *testing.T) *forest.Forest {
	t.Helper()
	f := forest.New()
	for i, e := range []api.Errno{
		f.Root(root(number(1), 7, rights.All, 1)),
		f.Delegate(number(1), 1, number(2), 2, rights.All),
		f.Delegate(number(1), 1, number(3), 4, rights.Read),
		f.Delegate(number(2), 2, number(4), 3, rights.Read|rights.Delegate),
		f.Delegate(number(4), 3, number(5), 2, rights.Read),
		f.Root(root(number(6), 8, rights.All, 1)),
		f.Delegate(number(6), 1, number(7), 3, rights.All),
		f.Delegate(number(7), 3, number(8), 1, rights.Read),
		f.Root(root(number(9), 7, 0, 4)),
	} {
		if e != api.OK {
			t.Fatalf("handle %d: %d", i+1, e)
		}
	}
	return f
}

// The example of the chapter.
func TestExample(t *testing.T) {
	f := forest.New()
	fails(t, "Root", f.Root(root(number(1), 1, rights.All, 1)), api.OK)
	fails(t, "Delegate", f.Delegate(number(1), 1, number(2), 2, rights.Read), api.OK)
	is(t, "Revoke of 1", f.Revoke(number(1)), 1, 2)
	is(t, "what is left", f.List(all))
}

// P17.1: a new forest is empty.
func TestNew(t *testing.T) {
	f := forest.New()
	if f == nil {
		t.Fatal("New is nil")
	}
	for _, h := range []draws.Handle{{}, number(1), {High: 1}, {High: math.MaxUint64, Low: math.MaxUint64}} {
		if f.Taken(h) {
			t.Errorf("%v is taken", h)
		}
		for _, who := range []uint32{0, 1, math.MaxUint32} {
			if e, err := f.Find(h, who); e != (forest.Entry{}) || err != api.ErrHandle {
				t.Errorf("Find of %v is %v, %d", h, e, err)
			}
		}
		is(t, "Revoke", f.Revoke(h))
	}
	is(t, "List", f.List(func(e forest.Entry) bool {
		t.Errorf("wants was asked about %v", e)
		return true
	}))
	for _, n := range []int{0, 1, -1, math.MaxInt, math.MinInt} {
		if f.Count(n) != 0 || f.Held(uint32(n)) != 0 {
			t.Errorf("Count of %d is %d, and Held %d", n, f.Count(n), f.Held(uint32(n)))
		}
		is(t, "Leave", f.Leave(uint32(n)))
	}
}

// P17.1: what Root adds is found by its owner alone, as it was handed in, but without a parent and with its own order.
func TestRoot(t *testing.T) {
	const big = math.MaxUint64
	f := forest.New()
	for i, e := range []forest.Entry{
		root(draws.Handle{High: 1, Low: 2}, 5, rights.All, 3),
		root(draws.Handle{High: 2, Low: 1}, 5, rights.All, 3),
		root(draws.Handle{High: 1, Low: 1}, 6, rights.Read, 4),
		root(draws.Handle{High: 9}, 0, 0, 0),
		root(draws.Handle{Low: 9}, 5, rights.Delegate, 0),
		root(draws.Handle{High: big, Low: big}, math.MaxInt, rights.Revoke, math.MaxUint32),
		root(draws.Handle{High: big}, -1, rights.Thaw, 1),
		root(draws.Handle{Low: big}, math.MinInt, rights.Derive, 1<<31),
		{Handle: number(20), Object: 1, Rights: rights.All, Owner: 1, Parent: number(9), Order: 3},
		{Handle: number(21), Object: 1, Rights: rights.All, Owner: 1, Parent: number(21), Order: -7},
		{Handle: number(22), Object: 1, Rights: rights.All, Owner: 1, Parent: number(99), Order: 1 << 40},
	} {
		if f.Taken(e.Handle) {
			t.Errorf("%v is taken", e.Handle)
		}
		fails(t, "Root", f.Root(e), api.OK)
		e.Parent, e.Order = draws.Handle{}, i
		if got, err := f.Find(e.Handle, e.Owner); got != e || err != api.OK {
			t.Errorf("Find is %v, %d, not %v", got, err, e)
		}
		if !f.Taken(e.Handle) {
			t.Errorf("%v is not taken", e.Handle)
		}
		for _, who := range []uint32{e.Owner + 1, e.Owner - 1, e.Owner ^ 1<<31} {
			if got, err := f.Find(e.Handle, who); got != (forest.Entry{}) || err != api.ErrHandle {
				t.Errorf("Find for %d is %v, %d", who, got, err)
			}
		}
		if l := f.List(all); len(l) != i+1 || l[i] != e {
			t.Errorf("List is %v", l)
		}
	}
	// A parent that was handed in does not make a handle go with it.
	if l := f.Revoke(number(9)); len(l) != 1 || l[0].Order != 4 {
		t.Errorf("Revoke is %v", l)
	}
	for _, n := range []int{20, 21, 22} {
		if !f.Taken(number(n)) {
			t.Errorf("%d is gone", n)
		}
	}
}

// P17.1: each of the 256 rights.
func TestRootRights(t *testing.T) {
	f := forest.New()
	for i := range 256 {
		want := api.OK
		if i > 31 {
			want = api.ErrArg
		}
		fails(t, fmt.Sprint("Root with rights ", i), f.Root(root(number(i+1), 1, rights.Set(i), 1)), want)
		if f.Taken(number(i+1)) != (want == api.OK) {
			t.Errorf("with rights %d it is taken: %t", i, f.Taken(number(i+1)))
		}
	}
	if n := f.Count(1); n != 32 {
		t.Errorf("Count is %d", n)
	}
}

// P17.1: what Root refuses, and that nothing changes then.
func TestRootErrors(t *testing.T) {
	f := grown(t)
	before := f.List(all)
	for _, e := range []forest.Entry{
		{},
		root(draws.Handle{}, 7, rights.All, 1),
		root(draws.Handle{}, 7, 32, 1),
		root(number(1), 7, rights.All, 1),
		root(number(1), 9, rights.Read, 5),
		root(number(5), 7, rights.All, 2),
		root(number(5), 7, 64, 2),
		root(number(10), 7, 32, 1),
		root(number(10), 7, 33, 1),
		root(number(10), 7, 128|rights.All, 1),
		root(number(10), 7, 255, 1),
	} {
		fails(t, fmt.Sprint("Root of ", e), f.Root(e), api.ErrArg)
		if l := f.List(all); !slices.Equal(l, before) {
			t.Errorf("behind Root of %v List is %v", e, l)
		}
	}
	// What was refused does not count as added.
	fails(t, "Root", f.Root(root(number(10), 7, rights.All, 1)), api.OK)
	if e, err := f.Find(number(10), 1); e.Order != 9 || err != api.OK {
		t.Errorf("Find is %v, %d", e, err)
	}
}

// P17.2: what an entry has that was delegated.
func TestDelegate(t *testing.T) {
	l := grown(t).List(all)
	for i, want := range []forest.Entry{
		{Handle: number(1), Object: 7, Rights: rights.All, Owner: 1, Order: 0},
		{Handle: number(2), Object: 7, Rights: rights.All, Owner: 2, Parent: number(1), Order: 1},
		{Handle: number(3), Object: 7, Rights: rights.Read, Owner: 4, Parent: number(1), Order: 2},
		{Handle: number(4), Object: 7, Rights: rights.Read | rights.Delegate, Owner: 3, Parent: number(2), Order: 3},
		{Handle: number(5), Object: 7, Rights: rights.Read, Owner: 2, Parent: number(4), Order: 4},
		{Handle: number(6), Object: 8, Rights: rights.All, Owner: 1, Order: 5},
		{Handle: number(7), Object: 8, Rights: rights.All, Owner: 3, Parent: number(6), Order: 6},
		{Handle: number(8), Object: 8, Rights: rights.Read, Owner: 1, Parent: number(7), Order: 7},
		{Handle: number(9), Object: 7, Owner: 4, Order: 8},
	} {
		if i >= len(l) || l[i] != want {
			t.Fatalf("entry %d of %v is not %v", i, l, want)
		}
	}
}

// P17.2: equal rights, lesser ones and none, to oneself and to another one, and handles of which one number is zero.
func TestDelegateTo(t *testing.T) {
	f := forest.New()
	fails(t, "Root", f.Root(root(number(1), 5, rights.All, 1)), api.OK)
	order := 0
	for _, to := range []uint32{1, 2, 0, math.MaxUint32} {
		for want := range rights.All + 1 {
			for _, n := range []draws.Handle{{High: uint64(to)<<8 + uint64(want) + 2}, {Low: uint64(to)<<8 + uint64(want) + 2}} {
				fails(t, fmt.Sprint("Delegate to ", to, want), f.Delegate(number(1), 1, n, to, want), api.OK)
				order++
				e := forest.Entry{Handle: n, Object: 5, Rights: want, Owner: to, Parent: number(1), Order: order}
				if got, err := f.Find(n, to); got != e || err != api.OK {
					t.Errorf("Find is %v, %d, not %v", got, err, e)
				}
				if to != 1 {
					if got, err := f.Find(n, 1); got != (forest.Entry{}) || err != api.ErrHandle {
						t.Errorf("who delegated finds %v, %d", got, err)
					}
				}
			}
		}
	}
	if n := f.Count(5); n != order+1 {
		t.Errorf("Count is %d", n)
	}
}

// P17.2, P17.3: rights of every handle, and every rights that are wanted of it.
func TestDelegateRights(t *testing.T) {
	for have := range rights.All + 1 {
		f := forest.New()
		fails(t, "Root", f.Root(root(number(1), 5, have, 1)), api.OK)
		for want := range 256 {
			e := api.OK
			switch s := rights.Set(want); {
			case want > 31:
				e = api.ErrArg
			case have&rights.Delegate == 0 || s&^have != 0:
				e = api.ErrRight
			}
			n := number(want + 2)
			fails(t, fmt.Sprintf("Delegate of %d from %d", want, have), f.Delegate(number(1), 1, n, 2, rights.Set(want)), e)
			if f.Taken(n) != (e == api.OK) {
				t.Errorf("%d from %d is taken: %t", want, have, f.Taken(n))
			}
			if got, err := f.Find(n, 2); e == api.OK && (got.Rights != rights.Set(want) || err != api.OK) {
				t.Errorf("Find is %v, %d", got, err)
			}
		}
	}
}

// P17.2: of several errors the first one is returned, and nothing changes.
func TestDelegateErrors(t *testing.T) {
	f := grown(t)
	before := f.List(all)
	for _, c := range []struct {
		what string
		h    int
		who  uint32
		n    int
		want rights.Set
		e    api.Errno
	}{
		{"not there", 10, 1, 11, rights.Read, api.ErrHandle},
		{"not there, nor the owner", 10, 7, 11, rights.Read, api.ErrHandle},
		{"zero", 0, 1, 11, rights.Read, api.ErrHandle},
		{"zero, of owner 0", 0, 0, 11, 0, api.ErrHandle},
		{"another's", 1, 2, 11, rights.Read, api.ErrHandle},
		{"of whom it was delegated", 2, 1, 11, rights.Read, api.ErrHandle},
		{"not there, rights not valid", 10, 1, 11, 32, api.ErrHandle},
		{"not there, n zero", 10, 1, 0, rights.Read, api.ErrHandle},
		{"not there, n there", 10, 1, 1, rights.Read, api.ErrHandle},
		{"not there, all of it", 10, 1, 10, 255, api.ErrHandle},
		{"another's, rights not valid", 1, 2, 11, 32, api.ErrHandle},
		{"another's, without Delegate", 3, 1, 11, rights.Read, api.ErrHandle},
		{"another's, n zero", 1, 2, 0, rights.Read, api.ErrHandle},
		{"another's, n there", 1, 2, 2, rights.Read, api.ErrHandle},
		{"another's, all of it", 3, 1, 3, 255, api.ErrHandle},
		{"not valid", 1, 1, 11, 32, api.ErrArg},
		{"not valid, though there", 1, 1, 11, 255, api.ErrArg},
		{"not valid, without Delegate", 3, 4, 11, 32, api.ErrArg},
		{"not valid, more than h has", 4, 3, 11, 33, api.ErrArg},
		{"not valid, n zero", 1, 1, 0, 64, api.ErrArg},
		{"not valid, n there", 1, 1, 2, 64, api.ErrArg},
		{"without Delegate", 3, 4, 11, rights.Read, api.ErrRight},
		{"without Delegate, none wanted", 3, 4, 11, 0, api.ErrRight},
		{"without rights", 9, 4, 11, 0, api.ErrRight},
		{"more than h has", 4, 3, 11, rights.Derive, api.ErrRight},
		{"more than h has, and some of it", 4, 3, 11, rights.All, api.ErrRight},
		{"without Delegate, n zero", 3, 4, 0, rights.Read, api.ErrRight},
		{"without Delegate, n there", 3, 4, 1, rights.Read, api.ErrRight},
		{"without Delegate, n is h", 3, 4, 3, rights.Read, api.ErrRight},
		{"more than h has, n zero", 4, 3, 0, rights.Derive, api.ErrRight},
		{"more than h has, n there", 4, 3, 9, rights.Derive, api.ErrRight},
		{"n zero", 1, 1, 0, rights.Read, api.ErrArg},
		{"n there", 1, 1, 9, rights.Read, api.ErrArg},
		{"n below h", 1, 1, 2, rights.Read, api.ErrArg},
		{"n above h", 4, 3, 1, rights.Read, api.ErrArg},
		{"n is h", 1, 1, 1, rights.Read, api.ErrArg},
		{"n is h, all rights", 1, 1, 1, rights.All, api.ErrArg},
	} {
		fails(t, c.what, f.Delegate(number(c.h), c.who, number(c.n), 5, c.want), c.e)
		if l := f.List(all); !slices.Equal(l, before) {
			t.Errorf("%s: List is %v", c.what, l)
		}
		if f.Held(5) != 0 || f.Taken(number(10)) || f.Taken(number(11)) {
			t.Errorf("%s: it was added", c.what)
		}
	}
	fails(t, "Delegate", f.Delegate(number(1), 1, number(11), 5, rights.Read), api.OK)
	if e, err := f.Find(number(11), 5); e.Order != 9 || err != api.OK {
		t.Errorf("Find is %v, %d", e, err)
	}
}

// P17.1: List of all, of none and of some; wants is asked about each entry once, by their order.
func TestList(t *testing.T) {
	f := grown(t)
	for _, c := range []struct {
		what  string
		wants func(e forest.Entry) bool
		want  []int
	}{
		{"all", all, []int{1, 2, 3, 4, 5, 6, 7, 8, 9}},
		{"none", func(forest.Entry) bool { return false }, nil},
		{"those of 1", func(e forest.Entry) bool { return e.Owner == 1 }, []int{1, 6, 8}},
		{"those of object 8", func(e forest.Entry) bool { return e.Object == 8 }, []int{6, 7, 8}},
		{"roots", func(e forest.Entry) bool { return e.Parent == draws.Handle{} }, []int{1, 6, 9}},
		{"those below 1", func(e forest.Entry) bool { return e.Parent == number(1) }, []int{2, 3}},
		{"those that may read", func(e forest.Entry) bool { return e.Rights.Has(rights.Read) }, []int{1, 2, 3, 4, 5, 6, 7, 8}},
		{"the last one", func(e forest.Entry) bool { return e.Order == 8 }, []int{9}},
		{"the first one", func(e forest.Entry) bool { return e.Order == 0 }, []int{1}},
	} {
		var asked []forest.Entry
		is(t, c.what, f.List(func(e forest.Entry) bool {
			asked = append(asked, e)
			return c.wants(e)
		}), c.want...)
		is(t, "what wants was asked about", asked, 1, 2, 3, 4, 5, 6, 7, 8, 9)
	}
	f.Revoke(number(4))
	is(t, "behind Revoke List", f.List(all), 1, 2, 3, 6, 7, 8, 9)
	f.Leave(4)
	is(t, "behind Leave List", f.List(all), 1, 2, 6, 7, 8)
	fails(t, "Root", f.Root(root(number(3), 1, 0, 1)), api.OK)
	is(t, "behind Root List", f.List(all), 1, 2, 6, 7, 8, 3)
}

// P17.1: List is by the order of the handles, not by their numbers.
func TestListOfMany(t *testing.T) {
	f := forest.New()
	var want []int
	next := random(3)
	for range 5000 {
		n := next(1<<30) + 1
		if f.Root(root(number(n), n%7, rights.Set(n%32), uint32(n%5))) == api.OK {
			want = append(want, n)
		}
	}
	if len(want) < 4900 {
		t.Fatalf("only %d were added", len(want))
	}
	is(t, "List", f.List(all), want...)
	for i, e := range f.List(all) {
		if e.Order != i {
			t.Fatalf("the order of entry %d is %d", i, e.Order)
		}
	}
	for i, n := range want {
		if i%3 == 0 {
			is(t, "Revoke", f.Revoke(number(n)), n)
		}
	}
	left := f.List(all)
	for i, e := range left {
		if e.Order != i+i/2+1 {
			t.Fatalf("the order of entry %d is %d", i, e.Order)
		}
	}
	if n := len(want) - (len(want)+2)/3; len(left) != n {
		t.Errorf("%d are left, not %d", len(left), n)
	}
}

// P17.2, P17.3: Revoke of each handle of a forest: what is returned, and what is left.
func TestRevoke(t *testing.T) {
	for _, c := range []struct{ h, gone, left []int }{
		{[]int{1}, []int{1, 2, 3, 4, 5}, []int{6, 7, 8, 9}},
		{[]int{2}, []int{2, 4, 5}, []int{1, 3, 6, 7, 8, 9}},
		{[]int{3}, []int{3}, []int{1, 2, 4, 5, 6, 7, 8, 9}},
		{[]int{4}, []int{4, 5}, []int{1, 2, 3, 6, 7, 8, 9}},
		{[]int{5}, []int{5}, []int{1, 2, 3, 4, 6, 7, 8, 9}},
		{[]int{6}, []int{6, 7, 8}, []int{1, 2, 3, 4, 5, 9}},
		{[]int{7}, []int{7, 8}, []int{1, 2, 3, 4, 5, 6, 9}},
		{[]int{8}, []int{8}, []int{1, 2, 3, 4, 5, 6, 7, 9}},
		{[]int{9}, []int{9}, []int{1, 2, 3, 4, 5, 6, 7, 8}},
		{[]int{0}, nil, []int{1, 2, 3, 4, 5, 6, 7, 8, 9}},
		{[]int{10}, nil, []int{1, 2, 3, 4, 5, 6, 7, 8, 9}},
		{[]int{5, 4}, []int{4}, []int{1, 2, 3, 6, 7, 8, 9}},
		{[]int{4, 1}, []int{1, 2, 3}, []int{6, 7, 8, 9}},
		{[]int{4, 5}, nil, []int{1, 2, 3, 6, 7, 8, 9}},
		{[]int{4, 4}, nil, []int{1, 2, 3, 6, 7, 8, 9}},
		{[]int{1, 6, 9}, []int{9}, nil},
		{[]int{1, 6, 9, 1}, nil, nil},
	} {
		f := grown(t)
		before := f.List(all)
		var l []forest.Entry
		for _, h := range c.h {
			l = f.Revoke(number(h))
		}
		is(t, fmt.Sprint("Revoke of ", c.h), l, c.gone...)
		is(t, fmt.Sprint("behind Revoke of ", c.h, " List"), f.List(all), c.left...)
		for _, e := range l {
			if e != before[e.Low-1] || f.Taken(e.Handle) {
				t.Errorf("%v was %v, and is taken: %t", e, before[e.Low-1], f.Taken(e.Handle))
			}
		}
		for _, e := range f.List(all) {
			if e != before[e.Low-1] {
				t.Errorf("%v was %v", e, before[e.Low-1])
			}
		}
	}
}

// P17.2: what is under a handle is returned by its order, though it was added in turn with other handles.
func TestRevokeInTurn(t *testing.T) {
	f := forest.New()
	tops := []int{900, 500, 700}
	for _, n := range tops {
		fails(t, "Root", f.Root(root(number(n), n, rights.All, 1)), api.OK)
	}
	want := map[int][]int{900: {900}, 500: {500}, 700: {700}}
	for i := range 60 {
		top := tops[i%3]
		l := want[top]
		n := (i*37)%60 + 1
		fails(t, "Delegate", f.Delegate(number(l[i/4%len(l)]), 1, number(n), 1, rights.All), api.OK)
		want[top] = append(l, n)
	}
	for _, top := range tops {
		is(t, "Revoke", f.Revoke(number(top)), want[top]...)
	}
	is(t, "what is left", f.List(all))
}

// P17.2: a long chain and a broad one.
func TestRevokeOfMany(t *testing.T) {
	const n = 20000
	for _, broad := range []bool{false, true} {
		f := forest.New()
		fails(t, "Root", f.Root(root(number(1), 1, rights.All, 1)), api.OK)
		for i := range n {
			h := number(i + 1)
			if broad {
				h = number(1)
			}
			if e := f.Delegate(h, 1, number(i+2), 1, rights.All); e != api.OK {
				t.Fatalf("Delegate is %d", e)
			}
		}
		half := f.Revoke(number(n / 2))
		if want := map[bool]int{false: n/2 + 2, true: 1}[broad]; len(half) != want {
			t.Errorf("%t: %d were revoked, not %d", broad, len(half), want)
		}
		rest := f.Revoke(number(1))
		if len(half)+len(rest) != n+1 || f.Count(1) != 0 || len(f.List(all)) != 0 {
			t.Errorf("%t: %d and %d were revoked, and %d are left", broad, len(half), len(rest), f.Count(1))
		}
		if !slices.IsSortedFunc(rest, func(a, b forest.Entry) int { return a.Order - b.Order }) {
			t.Errorf("%t: they are not sorted", broad)
		}
	}
}

// P17.2: Leave of each owner: what is returned, and what is left.
func TestLeave(t *testing.T) {
	for _, c := range []struct {
		who        []uint32
		gone, left []int
	}{
		{[]uint32{1}, []int{1, 2, 3, 4, 5, 6, 7, 8}, []int{9}},
		{[]uint32{2}, []int{2, 4, 5}, []int{1, 3, 6, 7, 8, 9}},
		{[]uint32{3}, []int{4, 5, 7, 8}, []int{1, 2, 3, 6, 9}},
		{[]uint32{4}, []int{3, 9}, []int{1, 2, 4, 5, 6, 7, 8}},
		{[]uint32{0}, nil, []int{1, 2, 3, 4, 5, 6, 7, 8, 9}},
		{[]uint32{5}, nil, []int{1, 2, 3, 4, 5, 6, 7, 8, 9}},
		{[]uint32{math.MaxUint32}, nil, []int{1, 2, 3, 4, 5, 6, 7, 8, 9}},
		{[]uint32{3, 3}, nil, []int{1, 2, 3, 6, 9}},
		{[]uint32{3, 2}, []int{2}, []int{1, 3, 6, 9}},
		{[]uint32{2, 3}, []int{7, 8}, []int{1, 3, 6, 9}},
		{[]uint32{1, 2}, nil, []int{9}},
		{[]uint32{1, 4}, []int{9}, nil},
	} {
		f := grown(t)
		before := f.List(all)
		var l []forest.Entry
		for _, who := range c.who {
			l = f.Leave(who)
			if n := f.Held(who); n != 0 {
				t.Errorf("behind Leave %d has %d", who, n)
			}
		}
		is(t, fmt.Sprint("Leave of ", c.who), l, c.gone...)
		is(t, fmt.Sprint("behind Leave of ", c.who, " List"), f.List(all), c.left...)
		for _, e := range append(l, f.List(all)...) {
			if e != before[e.Low-1] {
				t.Errorf("%v was %v", e, before[e.Low-1])
			}
		}
	}
}

// P17.1, P17.2: a handle may be added anew; nothing of its first time is left, and its order is another one.
func TestAnew(t *testing.T) {
	f := grown(t)
	f.Revoke(number(2))
	fails(t, "Root of one that was removed", f.Root(root(number(2), 3, rights.Read, 6)), api.OK)
	if e, err := f.Find(number(2), 6); e != (forest.Entry{Handle: number(2), Object: 3, Rights: rights.Read, Owner: 6, Order: 9}) || err != api.OK {
		t.Errorf("Find is %v, %d", e, err)
	}
	if e, err := f.Find(number(2), 2); e != (forest.Entry{}) || err != api.ErrHandle {
		t.Errorf("Find by its first owner is %v, %d", e, err)
	}
	fails(t, "Delegate of one that was removed", f.Delegate(number(6), 1, number(4), 6, rights.All), api.OK)
	fails(t, "Delegate from it", f.Delegate(number(4), 6, number(5), 6, rights.All), api.OK)
	is(t, "Revoke of 1", f.Revoke(number(1)), 1, 3)
	is(t, "Revoke of 2", f.Revoke(number(2)), 2)
	is(t, "Revoke of 6", f.Revoke(number(6)), 6, 7, 8, 4, 5)
	is(t, "what is left", f.List(all), 9)
	fails(t, "Root", f.Root(root(number(1), 3, rights.Read, 6)), api.OK)
	if e, err := f.Find(number(1), 6); e.Order != 12 || err != api.OK {
		t.Errorf("Find is %v, %d", e, err)
	}
}

// P17.2: what stood under a handle that was removed is not under it when it is added anew.
func TestAnewFromAnother(t *testing.T) {
	f := grown(t)
	f.Leave(2)
	fails(t, "Delegate", f.Delegate(number(1), 1, number(4), 3, rights.All), api.OK)
	fails(t, "Delegate", f.Delegate(number(4), 3, number(2), 2, rights.All), api.OK)
	is(t, "Revoke of 2", f.Revoke(number(2)), 2)
	fails(t, "Delegate", f.Delegate(number(4), 3, number(5), 2, rights.All), api.OK)
	is(t, "Revoke of 4", f.Revoke(number(4)), 4, 5)
	is(t, "what is left", f.List(all), 1, 3, 6, 7, 8, 9)
}

// P17.1: Count and Held behind each kind of change.
func TestCounts(t *testing.T) {
	f := forest.New()
	stands := func(what string, seven, eight, one, two int) {
		t.Helper()
		for i, n := range []int{f.Count(7), f.Count(8), f.Held(1), f.Held(2)} {
			if want := []int{seven, eight, one, two}[i]; n != want {
				t.Errorf("%s: number %d is %d, not %d", what, i, n, want)
			}
		}
		for _, n := range []int{0, 1, 2, 9, -1, math.MaxInt, math.MinInt, 7 + 1<<32} {
			if f.Count(n) != 0 {
				t.Errorf("%s: Count of %d is %d", what, n, f.Count(n))
			}
		}
		for _, n := range []uint32{0, 3, 7, 8, math.MaxUint32} {
			if f.Held(n) != 0 {
				t.Errorf("%s: Held of %d is %d", what, n, f.Held(n))
			}
		}
	}
	stands("New", 0, 0, 0, 0)
	f.Root(root(number(1), 7, rights.All, 1))
	stands("Root", 1, 0, 1, 0)
	f.Root(root(number(2), 8, rights.All, 1))
	stands("another Root", 1, 1, 2, 0)
	f.Root(root(number(2), 7, rights.All, 2))
	f.Root(root(number(3), 7, 32, 2))
	stands("Root with an error", 1, 1, 2, 0)
	f.Delegate(number(1), 1, number(3), 2, rights.All)
	stands("Delegate", 2, 1, 2, 1)
	f.Delegate(number(1), 1, number(4), 1, rights.All)
	stands("Delegate to oneself", 3, 1, 3, 1)
	f.Delegate(number(1), 1, number(4), 1, rights.All)
	f.Delegate(number(1), 2, number(5), 1, rights.All)
	stands("Delegate with an error", 3, 1, 3, 1)
	f.Delegate(number(3), 2, number(5), 2, rights.All)
	stands("Delegate of what was delegated", 4, 1, 3, 2)
	f.Revoke(number(9))
	f.Leave(9)
	stands("Revoke and Leave of none", 4, 1, 3, 2)
	f.Revoke(number(3))
	stands("Revoke", 2, 1, 3, 0)
	f.Delegate(number(2), 1, number(3), 2, rights.All)
	stands("Delegate of another object", 2, 2, 3, 1)
	f.Leave(2)
	stands("Leave", 2, 1, 3, 0)
	f.Leave(1)
	stands("Leave of all", 0, 0, 0, 0)
}

// P17.2: a nil forest.
func TestNil(t *testing.T) {
	var f *forest.Forest
	for _, h := range []draws.Handle{{}, number(1)} {
		if f.Taken(h) {
			t.Errorf("%v is taken", h)
		}
		for _, s := range []rights.Set{0, rights.All, 32} {
			fails(t, "Root", f.Root(root(h, 1, s, 1)), api.ErrArg)
			fails(t, "Delegate", f.Delegate(h, 0, number(2), 1, s), api.ErrHandle)
			fails(t, "Delegate", f.Delegate(h, 1, h, 1, s), api.ErrHandle)
		}
		if e, err := f.Find(h, 0); e != (forest.Entry{}) || err != api.ErrHandle {
			t.Errorf("Find is %v, %d", e, err)
		}
		is(t, "Revoke", f.Revoke(h))
	}
	is(t, "List", f.List(all))
	is(t, "List", f.List(nil))
	is(t, "Leave", f.Leave(0))
	is(t, "Leave", f.Leave(1))
	if f.Count(0) != 0 || f.Count(1) != 0 || f.Held(0) != 0 || f.Held(1) != 0 {
		t.Error("it has handles")
	}
}

// A forest that New did not make is one without handles too.
func TestZero(t *testing.T) {
	w := &twin{T: t, f: new(forest.Forest)}
	w.same()
	w.revoke(number(1))
	w.leave(0)
	w.delegate(number(1), 0, number(2), 0, 0)
	w.root(root(number(1), 1, rights.All, 0))
	w.delegate(number(1), 0, number(2), 1, rights.Read)
	w.leave(0)
}
