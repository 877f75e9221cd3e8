package forest_test

import (
	"slices"
	"testing"

	"easement/api"
	"easement/draws"
	"easement/forest"
	"easement/rights"
)

// Rule 3: changing what was returned changes no forest, nor what is returned later.
func TestResultsAreApart(t *testing.T) {
	f := grown(t)
	want := f.List(all)
	clear(f.List(all))
	l := f.List(all)
	for i := range l {
		l[i].Handle, l[i].Parent, l[i].Owner = number(50+i), number(1), 9
	}
	_ = append(l[:1], forest.Entry{Handle: number(77)}, forest.Entry{Handle: number(78)})
	if got := f.List(all); !slices.Equal(got, want) {
		t.Errorf("List is %v, not %v", got, want)
	}
	if f.Held(9) != 0 || f.Taken(number(50)) || f.Taken(number(77)) {
		t.Error("what was put into a list is in the forest")
	}
	gone := f.Revoke(number(2))
	copied := slices.Clone(gone)
	clear(f.Leave(3))
	if !slices.Equal(gone, copied) {
		t.Errorf("what Revoke returned is %v now", gone)
	}
	clear(gone)
	is(t, "List", f.List(all), 1, 3, 6, 9)
	if e, err := f.Find(number(6), 1); e != want[5] || err != api.OK {
		t.Errorf("Find is %v, %d", e, err)
	}
}

// Rule 3: what was returned is not changed by later calls.
func TestResultsRemain(t *testing.T) {
	next := random(7)
	w := start(t)
	var lists, copies [][]forest.Entry
	keep := func(l []forest.Entry) {
		lists, copies = append(lists, l), append(copies, slices.Clone(l))
	}
	for range 200 {
		w.mixed(next)
		keep(w.f.List(all))
		keep(w.f.List(func(e forest.Entry) bool { return e.Owner == 1 }))
		if next(9) == 0 {
			h := some(next)
			l := w.f.Revoke(h)
			keep(l)
			w.part(func(e forest.Entry) bool { return slices.Contains(l, e) })
		}
	}
	for i := range lists {
		if !slices.Equal(lists[i], copies[i]) {
			t.Errorf("list %d is %v, not %v", i, lists[i], copies[i])
		}
	}
}

// Rule 3: what Root was handed may be changed behind the call, and so may what wants was handed.
func TestArgumentsAreApart(t *testing.T) {
	f := forest.New()
	e := forest.Entry{Handle: number(1), Object: 7, Rights: rights.All, Owner: 1, Parent: number(5), Order: 8}
	before := e
	fails(t, "Root", f.Root(e), api.OK)
	if e != before {
		t.Errorf("what Root was handed is %v", e)
	}
	e.Low, e.Object, e.Rights, e.Owner = 2, 8, 0, 2
	l := f.List(func(e forest.Entry) bool {
		e.Low, e.Object, e.Rights, e.Owner = 2, 8, 0, 2
		return true
	})
	want := forest.Entry{Handle: number(1), Object: 7, Rights: rights.All, Owner: 1}
	if !slices.Equal(l, []forest.Entry{want}) {
		t.Errorf("List is %v", l)
	}
}

// P2: what a forest tells depends on its own calls alone.
func TestForestsAreApart(t *testing.T) {
	a, b := start(t), start(t)
	one, two := random(1), random(2)
	for range 150 {
		a.mixed(one)
		b.mixed(two)
		a.same()
	}
}

// P2: the same calls have the same results.
func TestSameCalls(t *testing.T) {
	var rows [2][]forest.Entry
	for i := range rows {
		next := random(9)
		w := start(t)
		for range 300 {
			w.mixed(next)
			rows[i] = append(rows[i], w.f.List(all)...)
		}
	}
	if !slices.Equal(rows[0], rows[1]) {
		t.Error("the same calls have other results")
	}
}

// P2: wants is asked by the order, also where its answer hangs on how often it was asked.
func TestWantsCounts(t *testing.T) {
	for range 20 {
		f := grown(t)
		n := 0
		is(t, "List", f.List(func(forest.Entry) bool {
			n++
			return n%2 == 0
		}), 2, 4, 6, 8)
	}
}

// P1: without a function nothing is wanted.
func TestNoFunction(t *testing.T) {
	f := grown(t)
	is(t, "List", f.List(nil))
	is(t, "List", f.List(all), 1, 2, 3, 4, 5, 6, 7, 8, 9)
}

// P1: where a function panics it has not returned true.
func TestPanics(t *testing.T) {
	f := grown(t)
	is(t, "List", f.List(func(e forest.Entry) bool {
		if e.Low > 4 {
			panic("no")
		}
		return e.Low > 1
	}), 2, 3, 4)
	is(t, "List", f.List(func(e forest.Entry) bool { panic(e) }))
	is(t, "List", f.List(all), 1, 2, 3, 4, 5, 6, 7, 8, 9)
}

// P1: wants may itself call the forest: List is of the entries that were there when it was called.
func TestWantsCalls(t *testing.T) {
	f := grown(t)
	is(t, "List", f.List(func(e forest.Entry) bool {
		switch e.Low {
		case 1:
			is(t, "List within", f.List(all), 1, 2, 3, 4, 5, 6, 7, 8, 9)
			fails(t, "Root within", f.Root(root(number(10), 7, rights.All, 5)), api.OK)
		case 2:
			is(t, "Revoke within", f.Revoke(number(6)), 6, 7, 8)
			is(t, "Leave within", f.Leave(4), 3, 9)
		case 5:
			fails(t, "Delegate within", f.Delegate(number(1), 1, number(11), 5, rights.Read), api.OK)
		}
		return true
	}), 1, 2, 3, 4, 5, 6, 7, 8, 9)
	is(t, "List", f.List(all), 1, 2, 4, 5, 10, 11)
}

// An entry has an embedded handle, whose numbers are its own.
func TestEntry(t *testing.T) {
	e := forest.Entry{Handle: draws.Handle{High: 3, Low: 4}}
	e.High++
	if e.Handle != (draws.Handle{High: 4, Low: 4}) || e.Low != 4 {
		t.Errorf("the entry is %v", e)
	}
}

// P17.3: whatever is delegated from whatever, rights are lost only, at any depth.
func TestRightsLessen(t *testing.T) {
	next := random(4)
	w := start(t)
	for i := range 3 {
		w.root(root(number(i+1), i, rights.All, 1))
	}
	for i := range 150 {
		w.delegate(number(next(i+3)+1), 1, number(i+4), 1, rights.Set(next(32))|rights.Delegate)
	}
	if len(w.list) < 30 {
		t.Errorf("only %d were delegated", len(w.list))
	}
	for _, e := range w.list {
		for _, top := range w.list {
			if w.under(e.Handle, top.Handle) && !top.Rights.Has(e.Rights) {
				t.Errorf("%v is under %v", e, top)
			}
		}
	}
}
