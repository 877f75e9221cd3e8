package draws_test

import (
	"math"
	"slices"
	"testing"

	"easement/api"
	"easement/draws"
)

// within is the numbers of l with others behind their length.
func within(l ...uint64) (list, whole []uint64) {
	whole = append(slices.Clone(l), 101, 102, 103, 104)
	return whole[:len(l)], whole
}

// Rule 3: what New and More are handed is not changed, nor what lies behind its length, whatever is called behind them.
func TestArgumentsRemain(t *testing.T) {
	first, one := within(1, 0, 0, 2)
	second, two := within(3, 4, 5)
	none, behind := within()
	d := draws.New(first...)
	empty := draws.New(none...)
	for _, x := range []*draws.Draws{d, empty} {
		x.More(none...)
		x.More(second...)
		x.More(second...)
		x.More(7)
		x.Next()
		x.Handle(func(h draws.Handle) bool { return h.High == 3 })
		x.More(second...)
		for range x.Left() {
			x.Next()
		}
		x.More(8, 9)
	}
	if !slices.Equal(one, []uint64{1, 0, 0, 2, 101, 102, 103, 104}) {
		t.Errorf("what New was handed is %v", one)
	}
	if !slices.Equal(two, []uint64{3, 4, 5, 101, 102, 103, 104}) {
		t.Errorf("what More was handed is %v", two)
	}
	if !slices.Equal(behind, []uint64{101, 102, 103, 104}) {
		t.Errorf("what lies behind no numbers is %v", behind)
	}
}

// Rule 3: the source has numbers of its own: what it was handed may be changed behind the call.
func TestNumbersAreItsOwn(t *testing.T) {
	first, one := within(1, 2)
	second, two := within(3)
	none, behind := within()
	d := draws.New(first...)
	clear(one)
	d.More(second...)
	clear(two)
	d.More(none...)
	d.More(5, 6)
	clear(behind)
	other := draws.New(none...)
	other.More(second...)
	two[0] = 9
	other.More(8)
	clear(two)
	clear(behind)
	for _, c := range []struct {
		d    *draws.Draws
		want []uint64
	}{{d, []uint64{1, 2, 3, 5, 6}}, {other, []uint64{0, 8}}} {
		for _, want := range c.want {
			if n, e := c.d.Next(); n != want || e != api.OK {
				t.Errorf("Next is %d, %d, not %d", n, e, want)
			}
		}
		stands(t, c.d, 0, len(c.want))
	}
}

// P2: what is drawn from a source depends on its own calls alone, also where sources were handed the same list.
func TestSourcesAreApart(t *testing.T) {
	l, _ := within(numbers(random(5), 60)...)
	a, b := start(t, l...), start(t, l...)
	for i := range 40 {
		a.next()
		a.more(uint64(i))
		if i%3 == 0 {
			b.handle(draws.Handle{Low: 1})
			b.more(math.MaxUint64, 0)
		}
		a.same()
		b.same()
	}
	a.rest()
	b.rest()
}

// P2: the same calls have the same results.
func TestSameCalls(t *testing.T) {
	var rows [2][]uint64
	for i := range rows {
		next := random(9)
		d := draws.New(numbers(next, 50)...)
		for range 300 {
			switch next(3) {
			case 0:
				n, e := d.Next()
				rows[i] = append(rows[i], n, uint64(e))
			case 1:
				h, e := d.Handle(func(h draws.Handle) bool { return h.Low == 1 })
				rows[i] = append(rows[i], h.High, h.Low, uint64(e))
			default:
				d.More(numbers(next, next(4))...)
			}
			rows[i] = append(rows[i], uint64(d.Left()), uint64(d.Used()))
		}
	}
	if !slices.Equal(rows[0], rows[1]) {
		t.Error("the same calls have other results")
	}
}

// P1: without a function no handle is taken, but a zero one is refused all the same.
func TestNoFunction(t *testing.T) {
	d := draws.New(0, 0, 1, 2, 3)
	if h, e := d.Handle(nil); h != (draws.Handle{High: 1, Low: 2}) || e != api.OK {
		t.Errorf("Handle is %v, %d", h, e)
	}
	stands(t, d, 1, 4)
}

// P1: a function that panics has not returned false, so that the handle is refused.
func TestPanics(t *testing.T) {
	d := draws.New(1, 2, 3, 4, 5, 6, 7)
	h, e := d.Handle(func(h draws.Handle) bool {
		if h.High < 5 {
			panic("no")
		}
		return false
	})
	if h != (draws.Handle{High: 5, Low: 6}) || e != api.OK {
		t.Errorf("Handle is %v, %d", h, e)
	}
	stands(t, d, 1, 6)
	d.More(8, 9)
	if h, e := d.Handle(func(h draws.Handle) bool { panic(h) }); h != (draws.Handle{}) || e != api.ErrDraw {
		t.Errorf("Handle is %v, %d", h, e)
	}
	stands(t, d, 1, 8)
	w := &twin{T: t, Draws: d, left: []uint64{9}, used: 8}
	w.more(1, 1)
	w.handle()
	w.rest()
}

// P1, P15.2: taken may itself call the source: what it draws isn't drawn again, and what it appends is drawn.
func TestTakenCalls(t *testing.T) {
	d := draws.New(1, 2, 3, 4, 5, 6)
	h, e := d.Handle(func(h draws.Handle) bool {
		switch h {
		case draws.Handle{High: 1, Low: 2}:
			stands(t, d, 4, 2)
			if n, e := d.Next(); n != 3 || e != api.OK {
				t.Errorf("Next is %d, %d", n, e)
			}
		case draws.Handle{High: 4, Low: 5}:
			d.More(7)
		}
		return h.Low < 7
	})
	if h != (draws.Handle{High: 6, Low: 7}) || e != api.OK {
		t.Errorf("Handle is %v, %d", h, e)
	}
	stands(t, d, 0, 7)

	d = draws.New(row(6)...)
	var inner draws.Handle
	h, e = d.Handle(func(h draws.Handle) bool {
		inner, _ = d.Handle(nil)
		return false
	})
	if h != (draws.Handle{High: 1, Low: 2}) || inner != (draws.Handle{High: 3, Low: 4}) || e != api.OK {
		t.Errorf("Handle is %v, %d, and within %v", h, e, inner)
	}
	stands(t, d, 2, 4)
}
