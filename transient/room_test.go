package transient_test

import (
	"fmt"
	"testing"

	"easement/api"
	"easement/object"
)

// tight makes one call in an arena with so much room, and then all releases, and
// returns how often there was not enough room. Where there was not, there is once the
// room is there.
func tight(t *testing.T, build way, k object.Kind, n, left int, call func(w *twin, id int)) int {
	t.Helper()
	w := newTwin(t, 6*n+60)
	id := build(w, k, n)
	l := fill(t, w.Land, left)
	call(w, id)
	full := w.full
	w.same()
	drop(w.Land, l)
	call(w, id)
	if w.full != full {
		t.Fatalf("the kind %d: a call fails though there is room", k)
	}
	w.end()
	return full
}

// eachRoom makes one call with every little room, and with what is always enough, and
// returns how often there was not enough. More than what was enough is enough, too.
func eachRoom(t *testing.T, build way, k object.Kind, n int, call func(w *twin, id int)) int {
	t.Helper()
	full := 0
	most := plain{kind: k, list: some(n)}.plenty()
	for left := range most + 1 {
		if left > 9 && left < most {
			continue
		}
		failed := tight(t, build, k, n, left, call)
		if failed > 0 && full < left {
			t.Fatalf("the kind %d: there is not enough room in %d cells, but in fewer", k, left)
		}
		full += failed
	}
	return full
}

// P14.2: Derive and Change where there is little room: ErrFull, and nothing has changed,
// no number is used, and the object remains what it was.
func TestRoom(t *testing.T) {
	t.Parallel()
	for _, k := range kinds() {
		t.Run(fmt.Sprintf("kind %d", k), func(t *testing.T) {
			t.Parallel()
			derives, changes := 0, 0
			for _, n := range []int{0, 1, 2, 14, 32, 33, 65} {
				for _, op := range done(k, n) {
					for _, build := range versions() {
						derives += eachRoom(t, build, k, n, func(w *twin, id int) { w.derive(id, op) })
					}
					for _, build := range transients() {
						changes += eachRoom(t, build, k, n, func(w *twin, id int) { w.change(id, op) })
					}
				}
			}
			if derives == 0 || changes == 0 {
				t.Error("there was always room enough")
			}
		})
	}
}

// P14.2: without any room Derive and Change return ErrFull, by the name of the error.
func TestFull(t *testing.T) {
	for _, k := range kinds() {
		w := newTwin(t, 400)
		v := frozen(w, k, 3)
		m := w.thaw(v)
		l := fill(t, w.Land, 0)
		count, was := w.Count(), cells(w.Land)
		for range 3 {
			fails(t, api.ErrFull)(w.Derive(v, always(k)))
			is(t, w.Change(m, always(k)), api.ErrFull)
		}
		unchanged(t, w.Land, was)
		if w.Count() != count {
			t.Errorf("Count is %d, was %d", w.Count(), count)
		}
		w.same()
		drop(w.Land, l)
		w.derive(v, always(k))
		w.change(m, always(k))
		w.end()
	}
}

// Make, Thaw, Freeze, Release, Tells, Of and Count need no room.
func TestNoRoomNeeded(t *testing.T) {
	each(t, versions(), func(w *twin, id int) {
		n := w.must.objects[id].len()
		l := fill(w.T, w.Land, 0)
		for range 3 {
			made := w.thaw(id)
			w.make(w.must.objects[id].kind)
			w.freeze(made)
			again := w.thaw(made)
			w.release(made)
			for _, op := range reading(n) {
				w.tells(again, op)
			}
			w.same()
		}
		drop(w.Land, l)
	}, 0, 1, 33, 65)
}
