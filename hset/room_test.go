package hset_test

import (
	"fmt"
	"slices"
	"testing"

	"easement/api"
	"easement/hamt"
	"easement/hset"
	"easement/value"
)

// makes is a way to make a set, with what it has then.
type makes struct {
	name string
	do   func(x hamt.Land) (hset.Set, api.Errno)
	want []value.Value
}

// allMakes are ways to make a set of two lists, of which sets are there as well.
func allMakes(a, b []value.Value, s, u hset.Set) []makes {
	texts := wishes(nil)[1].wants
	l := []makes{
		{"From of a list", func(x hamt.Land) (hset.Set, api.Errno) {
			return hset.From(x, all, slices.Values(a))
		}, a},
		{"From of sequences that share values", func(x hamt.Land) (hset.Set, api.Errno) {
			return hset.From(x, texts, hset.Values(x, u), slices.Values(a), hset.Values(x, s), slices.Values(b))
		}, wanted(operations()[0].want(a, b), texts)},
	}
	for _, o := range operations() {
		l = append(l, makes{o.name, func(x hamt.Land) (hset.Set, api.Errno) { return o.do(x, s, u) }, o.want(a, b)})
	}
	return l
}

// eachRoom makes a set with every room, from none on, until it is made a few times.
// Ahead of that the error is ErrFull, and the arena is as it was.
func eachRoom(t *testing.T, x hamt.Land, m makes) {
	t.Helper()
	filled := fill(t, x, 0)
	for enough := 0; enough < 3; {
		was := look(x)
		room := x.Room()
		switch got, e := m.do(x); {
		case e == api.OK:
			has(t, x, got, m.want)
			if used := room - x.Room(); used > 12*got.N {
				t.Fatalf("%s of %d values takes %d cells", m.name, got.N, used)
			}
			drop(x, got)
			enough++
		default:
			fails(t, api.ErrFull)(got, e)
			if enough > 0 || room >= 12*len(m.want)+20 {
				t.Fatalf("%s with room for %d cells returns %d", m.name, room, e)
			}
		}
		unchanged(t, x, was)
		x.Drop(filled[0])
		filled = filled[1:]
	}
	for _, i := range filled {
		x.Drop(i)
	}
}

// P10.2: in arenas of every small room, either the set is made, or the error is that of Add, and nothing has changed.
func TestEveryRoom(t *testing.T) {
	l := mixed(t, 40)
	for _, c := range []couple{
		{"none", nil, nil},
		{"one", l[:1], l[:1]},
		{"one hash", chained(t)[5:8], chained(t)[7:10]},
		{"chain", chained(t)[:10], chained(t)[4:]},
		{"few", l[:4], l[2:7]},
		{"some", l[:30], l[10:40]},
	} {
		t.Run(c.name, func(t *testing.T) {
			x := land(t, 400)
			s, u := build(t, x, c.a, 5), build(t, x, c.b, reserved)
			for _, m := range allMakes(c.a, c.b, s, u) {
				t.Run(m.name, func(t *testing.T) { eachRoom(t, x, m) })
			}
			has(t, x, s, c.a)
			has(t, x, u, c.b)
			drop(x, s, u)
			none(t, x)
		})
	}
}

// P10.2: in new arenas of every small size, no reference remains behind an error.
func TestSmallArenas(t *testing.T) {
	l := mixed(t, 24)
	full := 0
	for most := 1; most < 12*len(l)+21; most++ {
		x := land(t, most)
		s, e := hset.From(x, all, slices.Values(l), slices.Values(shuffled(l, 3)))
		if e == api.OK {
			has(t, x, s, l)
		} else {
			fails(t, api.ErrFull)(s, e)
			full++
		}
		drop(x, s)
		none(t, x)
		s = made(t)(hset.From(x, all, slices.Values(l[:1])))
		has(t, x, s, l[:1])
		if e != api.OK && most > 12*len(l)+20 {
			t.Errorf("From with room for %d cells returns %d", most, e)
		}
	}
	if full == 0 {
		t.Error("no arena was too small")
	}
}

// P10.2: the error is that of Add, one value after the other: where the room ends ahead of the values, ErrFull, and otherwise ErrLong.
func TestErrorIsThatOfAdd(t *testing.T) {
	l := mixed(t, 1100)
	for _, most := range []int{1, 30, 700, 1200, 1400, 1500, 1600, 1700, 1800, 2000, 3000, 13000} {
		t.Run(fmt.Sprint(most), func(t *testing.T) {
			x, y := land(t, most), land(t, most)
			want := api.OK
			s := hset.Set{}
			for _, v := range l {
				next, e := hset.Add(y, s, v, 5)
				if e != api.OK {
					want = e
					break
				}
				s = next
			}
			if want == api.OK {
				t.Fatal("more values are added than a set may have")
			}
			fails(t, want)(hset.From(x, all, slices.Values(l)))
			none(t, x)
		})
	}
}

// P10.2: what could not be made for want of room is made once there is some.
func TestRoomAgain(t *testing.T) {
	l := mixed(t, 60)
	x := land(t, 1000)
	s, u := build(t, x, l[:40], 5), build(t, x, l[20:], 6)
	filled := fill(t, x, 7)
	for _, m := range allMakes(l[:40], l[20:], s, u) {
		fails(t, api.ErrFull)(m.do(x))
	}
	for _, i := range filled {
		x.Drop(i)
	}
	for _, m := range allMakes(l[:40], l[20:], s, u) {
		got := made(t)(m.do(x))
		has(t, x, got, m.want)
		drop(x, got)
	}
	drop(x, s, u)
	none(t, x)
}
