package draws_test

import (
	"fmt"
	"math"
	"slices"
	"testing"

	"easement/api"
	"easement/draws"
)

// row is the numbers from 1 to n.
func row(n int) []uint64 {
	var l []uint64
	for i := range n {
		l = append(l, uint64(i)+1)
	}
	return l
}

// stands fails unless so many are left and were drawn.
func stands(t *testing.T, d *draws.Draws, left, used int) {
	t.Helper()
	if l, u := d.Left(), d.Used(); l != left || u != used {
		t.Errorf("%d are left and %d were drawn, not %d and %d", l, u, left, used)
	}
}

// The example of the chapter.
func TestExample(t *testing.T) {
	d := draws.New(0, 0, 1, 2)
	h, e := d.Handle(func(h draws.Handle) bool { return false })
	if h != (draws.Handle{High: 1, Low: 2}) || e != api.OK {
		t.Errorf("Handle is %v, %d", h, e)
	}
	stands(t, d, 0, 4)
}

// P15.1: New of none, of one, and of many; nothing is drawn yet.
func TestNew(t *testing.T) {
	for _, n := range []int{0, 1, 2, 3, 1000, 100000} {
		d := draws.New(row(n)...)
		if d == nil {
			t.Fatalf("New of %d numbers is nil", n)
		}
		stands(t, d, n, 0)
	}
	stands(t, draws.New([]uint64{}...), 0, 0)
	stands(t, draws.New([]uint64(nil)...), 0, 0)
}

// P15.1: Next draws the numbers in their order, each of them once, and zeros and equal ones too.
func TestNext(t *testing.T) {
	for _, l := range [][]uint64{
		{5},
		{0},
		{math.MaxUint64},
		{0, 0, 0},
		{7, 7, 7},
		{1, 0, math.MaxUint64, 1 << 63, 1<<63 - 1, 0},
		row(1000),
	} {
		d := draws.New(l...)
		for i, want := range l {
			if n, e := d.Next(); n != want || e != api.OK {
				t.Errorf("number %d is %d, %d, not %d", i, n, e, want)
			}
			stands(t, d, len(l)-i-1, i+1)
		}
		for range 3 {
			if n, e := d.Next(); n != 0 || e != api.ErrDraw {
				t.Errorf("behind the last number Next is %d, %d", n, e)
			}
			stands(t, d, 0, len(l))
		}
	}
}

// P15.1: More puts its numbers behind those that are left.
func TestMore(t *testing.T) {
	for _, n := range []int{0, 1, 2, 100} {
		for _, drawn := range []int{0, 1, n / 2, n} {
			for _, m := range []int{0, 1, 2, 3, 1000} {
				t.Run(fmt.Sprint(n, drawn, m), func(t *testing.T) {
					w := start(t, row(n)...)
					for range drawn {
						w.next()
					}
					w.more(numbers(random(uint64(m)), m)...)
					w.more()
					w.more(8, 9)
					w.rest()
				})
			}
		}
	}
}

// P15.1: More behind calls that had an error.
func TestMoreBehindErrors(t *testing.T) {
	for _, m := range []int{0, 1, 2, 100} {
		w := start(t)
		w.next()
		w.handle()
		w.more(row(m)...)
		w.rest()

		w = start(t, 5)
		w.handle()
		w.more(row(m)...)
		w.handle()
		w.rest()
	}
	d := draws.New(5)
	d.Handle(nil)
	d.More(6)
	if h, e := d.Handle(nil); h != (draws.Handle{High: 5, Low: 6}) || e != api.OK {
		t.Errorf("the number that was left and the next one form %v, %d", h, e)
	}
	stands(t, d, 0, 2)
}

// P15.2: which pairs are refused, and how many numbers are drawn then.
func TestHandle(t *testing.T) {
	const big = math.MaxUint64
	a, b, c := draws.Handle{High: 1, Low: 2}, draws.Handle{High: 3, Low: 4}, draws.Handle{High: 5, Low: 6}
	for _, x := range []struct {
		what  string
		l     []uint64
		taken []draws.Handle
		want  draws.Handle
		e     api.Errno
		left  int
		asked []draws.Handle
	}{
		{"the first pair", []uint64{1, 2}, nil, a, api.OK, 0, []draws.Handle{a}},
		{"numbers remain", []uint64{1, 2, 3}, nil, a, api.OK, 1, []draws.Handle{a}},
		{"pairs remain", []uint64{1, 2, 3, 4, 5, 6, 7}, nil, a, api.OK, 5, []draws.Handle{a}},
		{"the order counts", []uint64{2, 1}, []draws.Handle{a}, draws.Handle{High: 2, Low: 1}, api.OK, 0, []draws.Handle{{High: 2, Low: 1}}},
		{"the greatest", []uint64{big, big}, nil, draws.Handle{High: big, Low: big}, api.OK, 0, []draws.Handle{{High: big, Low: big}}},
		{"High is 0", []uint64{0, 9}, nil, draws.Handle{Low: 9}, api.OK, 0, []draws.Handle{{Low: 9}}},
		{"Low is 0", []uint64{9, 0}, nil, draws.Handle{High: 9}, api.OK, 0, []draws.Handle{{High: 9}}},
		{"two zeros", []uint64{0, 0, 1, 2}, nil, a, api.OK, 0, []draws.Handle{a}},
		{"many zeros", []uint64{0, 0, 0, 0, 0, 0, 0, 0, 1, 2, 0}, nil, a, api.OK, 1, []draws.Handle{a}},
		{"zeros of two pairs", []uint64{9, 0, 0, 9}, nil, draws.Handle{High: 9}, api.OK, 2, []draws.Handle{{High: 9}}},
		{"three zeros", []uint64{0, 0, 0, 9}, nil, draws.Handle{Low: 9}, api.OK, 0, []draws.Handle{{Low: 9}}},
		{"zeros alone", []uint64{0, 0, 0, 0}, nil, draws.Handle{}, api.ErrDraw, 0, nil},
		{"zeros and one", []uint64{0, 0, 0, 0, 7}, nil, draws.Handle{}, api.ErrDraw, 1, nil},
		{"one is taken", []uint64{1, 2, 3, 4, 5}, []draws.Handle{a}, b, api.OK, 1, []draws.Handle{a, b}},
		{"several are taken", []uint64{1, 2, 3, 4, 5, 6}, []draws.Handle{b, a}, c, api.OK, 0, []draws.Handle{a, b, c}},
		{"one is taken twice", []uint64{1, 2, 1, 2, 3, 4}, []draws.Handle{a}, b, api.OK, 0, []draws.Handle{a, a, b}},
		{"all are taken", []uint64{1, 2, 3, 4, 5, 6}, []draws.Handle{a, b, c}, draws.Handle{}, api.ErrDraw, 0, []draws.Handle{a, b, c}},
		{"all are taken, one remains", []uint64{1, 2, 3, 4, 8}, []draws.Handle{a, b}, draws.Handle{}, api.ErrDraw, 1, []draws.Handle{a, b}},
		{"zeros and taken ones", []uint64{0, 0, 1, 2, 0, 0, 3, 4, 0, 0, 5, 6}, []draws.Handle{a, b}, c, api.OK, 0, []draws.Handle{a, b, c}},
		{"taken ones and zeros", []uint64{1, 2, 0, 0, 3, 4, 0, 0, 7}, []draws.Handle{a, b}, draws.Handle{}, api.ErrDraw, 1, []draws.Handle{a, b}},
		{"a taken one across pairs", []uint64{9, 1, 2, 9}, []draws.Handle{a}, draws.Handle{High: 9, Low: 1}, api.OK, 2, []draws.Handle{{High: 9, Low: 1}}},
		{"no number", nil, nil, draws.Handle{}, api.ErrDraw, 0, nil},
		{"one number", []uint64{7}, nil, draws.Handle{}, api.ErrDraw, 1, nil},
		{"one zero", []uint64{0}, nil, draws.Handle{}, api.ErrDraw, 1, nil},
	} {
		t.Run(x.what, func(t *testing.T) {
			d := draws.New(x.l...)
			var asked []draws.Handle
			h, e := d.Handle(func(h draws.Handle) bool {
				asked = append(asked, h)
				return slices.Contains(x.taken, h)
			})
			if h != x.want || e != x.e {
				t.Errorf("Handle is %v, %d, not %v, %d", h, e, x.want, x.e)
			}
			if !slices.Equal(asked, x.asked) {
				t.Errorf("taken was asked about %v, not about %v", asked, x.asked)
			}
			stands(t, d, x.left, len(x.l)-x.left)
			for _, want := range x.l[len(x.l)-x.left:] {
				if n, e := d.Next(); n != want || e != api.OK {
					t.Errorf("the number behind is %d, %d, not %d", n, e, want)
				}
			}
			stands(t, d, 0, len(x.l))
		})
	}
}

// P15.2: with fewer than two left nothing is drawn, however often a handle is asked for.
func TestHandleAgain(t *testing.T) {
	for _, l := range [][]uint64{nil, {7}, {0}} {
		d := draws.New(l...)
		for range 3 {
			h, e := d.Handle(func(h draws.Handle) bool {
				t.Errorf("taken was asked about %v", h)
				return false
			})
			if h != (draws.Handle{}) || e != api.ErrDraw {
				t.Errorf("Handle is %v, %d", h, e)
			}
			stands(t, d, len(l), 0)
		}
	}
}

// P15.2: a handle that was given out is given out again where taken permits it.
func TestHandleTwice(t *testing.T) {
	w := start(t, 1, 2, 1, 2, 0, 0, 1, 2)
	for range 4 {
		w.handle()
	}
}

// P15.2: a great number of pairs is refused.
func TestHandleOfMany(t *testing.T) {
	const n = 200000
	d := draws.New(row(n)...)
	h, e := d.Handle(func(h draws.Handle) bool { return h.Low < n })
	if h != (draws.Handle{High: n - 1, Low: n}) || e != api.OK {
		t.Errorf("Handle is %v, %d", h, e)
	}
	stands(t, d, 0, n)
	d.More(make([]uint64, n+1)...)
	if h, e := d.Handle(nil); h != (draws.Handle{}) || e != api.ErrDraw {
		t.Errorf("of zeros Handle is %v, %d", h, e)
	}
	stands(t, d, 1, 2*n)
}

// P15.2: Next and Handle draw from one row.
func TestNextAndHandle(t *testing.T) {
	w := start(t, row(20)...)
	w.next()
	w.handle()
	w.handle(draws.Handle{High: 6, Low: 7})
	w.next()
	w.next()
	w.handle()
	w.rest()
	w.handle()
}

// P15.2: nil draws, and draws that New did not return.
func TestNil(t *testing.T) {
	for _, d := range []*draws.Draws{nil, new(draws.Draws)} {
		stands(t, d, 0, 0)
		if n, e := d.Next(); n != 0 || e != api.ErrDraw {
			t.Errorf("Next is %d, %d", n, e)
		}
		for _, taken := range []func(draws.Handle) bool{nil, func(draws.Handle) bool { return false }} {
			if h, e := d.Handle(taken); h != (draws.Handle{}) || e != api.ErrDraw {
				t.Errorf("Handle is %v, %d", h, e)
			}
		}
		stands(t, d, 0, 0)
	}
	var d *draws.Draws
	d.More()
	d.More(1, 2, 3)
	stands(t, d, 0, 0)
	if n, e := d.Next(); n != 0 || e != api.ErrDraw {
		t.Errorf("behind More Next is %d, %d", n, e)
	}
	if h, e := d.Handle(nil); h != (draws.Handle{}) || e != api.ErrDraw {
		t.Errorf("behind More Handle is %v, %d", h, e)
	}
	zero := new(draws.Draws)
	zero.More(1, 2, 3)
	stands(t, zero, 3, 0)
}
