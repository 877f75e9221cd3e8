package forest_test

import (
	"slices"
	"testing"

	"easement/api"
	"easement/draws"
	"easement/forest"
	"easement/rights"
)

// twin makes each call on a forest and on a plain list of entries, and holds the results against each other.
type twin struct {
	*testing.T
	f     *forest.Forest
	list  []forest.Entry // in the order in which they were added
	added int
}

func start(t *testing.T) *twin {
	t.Helper()
	w := &twin{T: t, f: forest.New()}
	w.same()
	return w
}

// at is the place of a handle in the list, or -1.
func (w *twin) at(h draws.Handle) int {
	return slices.IndexFunc(w.list, func(e forest.Entry) bool { return e.Handle == h })
}

// under tells by the chapter's words whether a handle of the list is under another one.
func (w *twin) under(h, top draws.Handle) bool {
	if h == top {
		return true
	}
	i := w.at(h)
	return i >= 0 && w.list[i].Parent != (draws.Handle{}) && w.under(w.list[i].Parent, top)
}

// same holds all that is told about the forest against the list.
func (w *twin) same() {
	w.Helper()
	w.equal("List", w.f.List(func(forest.Entry) bool { return true }), w.list)
	for _, e := range w.list {
		if !w.f.Taken(e.Handle) {
			w.Fatalf("%v is not taken", e.Handle)
		}
		if got, err := w.f.Find(e.Handle, e.Owner); got != e || err != api.OK {
			w.Fatalf("Find is %v, %d, not %v", got, err, e)
		}
		if got, err := w.f.Find(e.Handle, e.Owner+1); got != (forest.Entry{}) || err != api.ErrHandle {
			w.Fatalf("Find for another one is %v, %d", got, err)
		}
	}
	for i := range 8 {
		objects, held := 0, 0
		for _, e := range w.list {
			if e.Object == i {
				objects++
			}
			if e.Owner == uint32(i) {
				held++
			}
		}
		if n := w.f.Count(i); n != objects {
			w.Fatalf("Count of %d is %d, not %d", i, n, objects)
		}
		if n := w.f.Held(uint32(i)); n != held {
			w.Fatalf("Held of %d is %d, not %d", i, n, held)
		}
	}
	w.lessens()
}

// lessens fails where a handle has a right that one above it does not have (P17.3), or where its parent is not there.
func (w *twin) lessens() {
	w.Helper()
	have := map[draws.Handle]rights.Set{}
	for _, e := range w.f.List(func(forest.Entry) bool { return true }) {
		have[e.Handle] = e.Rights
		if e.Parent == (draws.Handle{}) {
			continue
		}
		// As this holds for each one's parent, it holds for all above it.
		if r, ok := have[e.Parent]; !ok || e.Rights&^r != 0 {
			w.Fatalf("%v is under %v, whose rights are %v, %t", e, e.Parent, r, ok)
		}
	}
}

func (w *twin) equal(what string, got, want []forest.Entry) {
	w.Helper()
	if !slices.Equal(got, want) {
		w.Fatalf("%s is %v, not %v", what, got, want)
	}
}

// add puts an entry behind the list.
func (w *twin) add(e forest.Entry) {
	e.Order = w.added
	w.added++
	w.list = append(w.list, e)
}

func (w *twin) root(e forest.Entry) {
	w.Helper()
	want := api.OK
	if e.Handle == (draws.Handle{}) || w.at(e.Handle) >= 0 || e.Rights > 31 {
		want = api.ErrArg
	}
	if err := w.f.Root(e); err != want {
		w.Fatalf("Root of %v is %d, not %d", e, err, want)
	}
	if want == api.OK {
		e.Parent = draws.Handle{}
		w.add(e)
	}
	w.same()
}

// delegated is the error that Delegate is to have.
func (w *twin) delegated(h draws.Handle, who uint32, n draws.Handle, want rights.Set) api.Errno {
	i := w.at(h)
	switch {
	case i < 0 || w.list[i].Owner != who:
		return api.ErrHandle
	case want > 31:
		return api.ErrArg
	case w.list[i].Rights&8 == 0 || want&^w.list[i].Rights != 0:
		return api.ErrRight
	case n == draws.Handle{} || w.at(n) >= 0:
		return api.ErrArg
	}
	return api.OK
}

func (w *twin) delegate(h draws.Handle, who uint32, n draws.Handle, to uint32, want rights.Set) {
	w.Helper()
	e := w.delegated(h, who, n, want)
	if err := w.f.Delegate(h, who, n, to, want); err != e {
		w.Fatalf("Delegate of %v, %d, %v, %d, %d is %d, not %d", h, who, n, to, want, err, e)
	}
	if e == api.OK {
		w.add(forest.Entry{Handle: n, Object: w.list[w.at(h)].Object, Rights: want, Owner: to, Parent: h})
	}
	w.same()
}

// part takes what goes out of the list.
func (w *twin) part(goes func(e forest.Entry) bool) []forest.Entry {
	var gone, left []forest.Entry
	for _, e := range w.list {
		if goes(e) {
			gone = append(gone, e)
		} else {
			left = append(left, e)
		}
	}
	w.list = left
	return gone
}

func (w *twin) revoke(h draws.Handle) {
	w.Helper()
	gone := w.part(func(e forest.Entry) bool { return w.under(e.Handle, h) })
	w.equal("Revoke", w.f.Revoke(h), gone)
	w.gone(gone)
}

func (w *twin) leave(who uint32) {
	w.Helper()
	gone := w.part(func(e forest.Entry) bool {
		return slices.ContainsFunc(w.list, func(top forest.Entry) bool {
			return top.Owner == who && w.under(e.Handle, top.Handle)
		})
	})
	w.equal("Leave", w.f.Leave(who), gone)
	w.gone(gone)
	if n := w.f.Held(who); n != 0 {
		w.Fatalf("behind Leave %d has %d handles", who, n)
	}
}

// gone fails where one of some entries is still there (P17.3).
func (w *twin) gone(l []forest.Entry) {
	w.Helper()
	for _, e := range l {
		if w.f.Taken(e.Handle) {
			w.Fatalf("%v is still there", e)
		}
		if got, err := w.f.Find(e.Handle, e.Owner); got != (forest.Entry{}) || err != api.ErrHandle {
			w.Fatalf("Find of what is gone is %v, %d", got, err)
		}
	}
	w.same()
}

func (w *twin) listed(wants func(e forest.Entry) bool) {
	w.Helper()
	var asked, want []forest.Entry
	for _, e := range w.list {
		if wants(e) {
			want = append(want, e)
		}
	}
	w.equal("List of some", w.f.List(func(e forest.Entry) bool {
		asked = append(asked, e)
		return wants(e)
	}), want)
	w.equal("what wants was asked about", asked, w.list)
	w.same()
}

// random is a row of numbers that is the same each time.
func random(n uint64) func(below int) int {
	return func(below int) int {
		n = n*6364136223846793005 + 1442695040888963407
		return int(n >> 33 % uint64(below))
	}
}

// some is a handle of few, one of which is zero.
func some(next func(below int) int) draws.Handle {
	return draws.Handle{High: uint64(next(3)), Low: uint64(next(8))}
}

// few are rights of which most are valid and have Delegate.
func few(next func(below int) int) rights.Set {
	l := []rights.Set{rights.All, rights.All, 15, 27, 12, 8, 9, 7, 0, 31, 30, 32, 255}
	return l[next(len(l))]
}

// mixed makes a call by the next numbers.
func (w *twin) mixed(next func(below int) int) {
	w.Helper()
	h, who := some(next), uint32(next(5))
	if len(w.list) > 0 && next(4) > 0 {
		e := w.list[next(len(w.list))]
		h, who = e.Handle, e.Owner
	}
	switch next(12) {
	case 0, 1, 2:
		w.root(forest.Entry{Handle: some(next), Object: next(5), Rights: few(next), Owner: uint32(next(5)), Parent: h, Order: next(9)})
	case 3:
		w.revoke(h)
	case 4:
		if next(3) == 0 {
			w.leave(uint32(next(6)))
		}
	case 5:
		w.listed(func(e forest.Entry) bool { return e.Owner == who || e.Object == 1 })
	default:
		w.delegate(h, who, some(next), uint32(next(5)), few(next))
	}
}

// P17.1, P17.2, P17.3: many mixed calls, each held against a plain list.
func TestMixed(t *testing.T) {
	for seed := range uint64(200) {
		next := random(seed)
		w := start(t)
		for range 200 {
			w.mixed(next)
		}
	}
}
