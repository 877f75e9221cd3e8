package arena

import (
	"sync/atomic"
	"testing"
)

// liveOf is the atomic number of live cells; with another type this doesn't build.
func liveOf(a *Arena) *atomic.Int64 { return &a.live }

// Live and Room tell the atomic number, and Make and Drop count by it.
func TestLiveIsAtomic(t *testing.T) {
	a, _ := New(9)
	i, _ := a.Make(Cell{})
	k, _ := a.Make(Cell{Kids: []int{i}})
	if liveOf(a).Load() != 2 {
		t.Errorf("2 cells are counted as %d", liveOf(a).Load())
	}
	liveOf(a).Add(3)
	if a.Live() != 5 || a.Room() != 4 {
		t.Errorf("Live is %d, Room is %d", a.Live(), a.Room())
	}
	a.Drop(k)
	if liveOf(a).Load() != 3 {
		t.Errorf("2 cells less than 5 are counted as %d", liveOf(a).Load())
	}
}

// No more is kept than the room: the places of freed cells are empty, and are used again.
func TestNothingIsLeft(t *testing.T) {
	a, _ := New(5)
	for range 1000 {
		last := 0
		for range 5 {
			last, _ = a.Make(Cell{Kids: []int{last}})
		}
		a.Drop(last)
	}
	if len(a.cells) > 5 || len(a.free) > 5 {
		t.Errorf("there are %d places, and %d free numbers", len(a.cells), len(a.free))
	}
	for i, h := range a.cells {
		if h != nil {
			t.Errorf("the cell at %d is still there", i)
		}
	}
}
