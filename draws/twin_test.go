package draws_test

import (
	"math"
	"slices"
	"testing"

	"easement/api"
	"easement/draws"
)

// twin makes each call on a source and on a plain list of what is left, and holds the results against each other.
type twin struct {
	*testing.T
	*draws.Draws
	left []uint64
	used int
}

func start(t *testing.T, l ...uint64) *twin {
	t.Helper()
	w := &twin{T: t, Draws: draws.New(l...), left: slices.Clone(l)}
	w.same()
	return w
}

// same holds what is told about the source against the list.
func (w *twin) same() {
	w.Helper()
	if left := w.Left(); left != len(w.left) {
		w.Fatalf("Left is %d, not %d", left, len(w.left))
	}
	if used := w.Used(); used != w.used {
		w.Fatalf("Used is %d, not %d", used, w.used)
	}
}

// draw takes the first n numbers off the list.
func (w *twin) draw(n int) []uint64 {
	l := w.left[:n]
	w.left = w.left[n:]
	w.used += n
	return l
}

func (w *twin) next() {
	w.Helper()
	var want uint64
	e := api.ErrDraw
	if len(w.left) > 0 {
		want, e = w.draw(1)[0], api.OK
	}
	if got, f := w.Next(); got != want || f != e {
		w.Fatalf("Next is %d, %d, not %d, %d", got, f, want, e)
	}
	w.same()
}

// handle makes a handle, where those of the list taken are taken.
func (w *twin) handle(taken ...draws.Handle) {
	w.Helper()
	var want draws.Handle
	var asked []draws.Handle
	e := api.ErrDraw
	for e != api.OK && len(w.left) > 1 {
		l := w.draw(2)
		h := draws.Handle{High: l[0], Low: l[1]}
		if l[0] == 0 && l[1] == 0 {
			continue
		}
		asked = append(asked, h)
		if !slices.Contains(taken, h) {
			want, e = h, api.OK
		}
	}
	var heard []draws.Handle
	got, f := w.Handle(func(h draws.Handle) bool {
		heard = append(heard, h)
		return slices.Contains(taken, h)
	})
	if got != want || f != e {
		w.Fatalf("Handle is %v, %d, not %v, %d", got, f, want, e)
	}
	if !slices.Equal(heard, asked) {
		w.Fatalf("taken was asked about %v, not about %v", heard, asked)
	}
	w.same()
}

func (w *twin) more(l ...uint64) {
	w.Helper()
	w.More(l...)
	w.left = slices.Concat(w.left, l)
	w.same()
}

// rest draws all that is left, and once more.
func (w *twin) rest() {
	w.Helper()
	for range len(w.left) + 1 {
		w.next()
	}
}

// random is a row of numbers that is the same each time.
func random(n uint64) func(below int) int {
	return func(below int) int {
		n = n*6364136223846793005 + 1442695040888963407
		return int(n >> 33 % uint64(below))
	}
}

// numbers are n of them; most are 0, 1 or the greatest one, so that pairs are often zero or taken.
func numbers(next func(below int) int, n int) []uint64 {
	var l []uint64
	for range n {
		l = append(l, []uint64{0, 0, 0, 1, math.MaxUint64, uint64(next(1 << 30))}[next(6)])
	}
	return l
}

// P15.1, P15.2: many mixed calls, each held against a plain list.
func TestMixed(t *testing.T) {
	for seed := range uint64(200) {
		next := random(seed)
		w := start(t, numbers(next, next(40))...)
		for range 200 {
			switch next(8) {
			case 0, 1:
				w.next()
			case 2:
				w.handle()
			case 3, 4:
				w.handle(draws.Handle{Low: 1}, draws.Handle{High: 1}, draws.Handle{High: 1, Low: 1}, draws.Handle{High: math.MaxUint64})
			case 5:
				w.handle(draws.Handle{Low: math.MaxUint64}, draws.Handle{High: 1, Low: math.MaxUint64})
			default:
				w.more(numbers(next, next(8))...)
			}
		}
		w.rest()
	}
}
