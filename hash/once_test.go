package hash

import (
	"testing"

	"easement/value"
)

// The key isn't computed ahead of need, by each call that needs it, and then never again.
func TestKeyOnce(t *testing.T) {
	for name, call := range map[string]func(h *Hasher) uint64{
		"Of":      func(h *Hasher) uint64 { return h.Of(value.Number(1)) },
		"All":     func(h *Hasher) uint64 { return h.All(value.Number(1)) },
		"no list": func(h *Hasher) uint64 { return h.All() },
	} {
		h := New(0)
		if h.key != 0 {
			t.Errorf("%s: there is a key ahead of need", name)
		}
		first := call(h)
		if h.key != 0xe220a8397b1dcdaf {
			t.Errorf("%s: the key is %#x", name, h.key)
		}
		h.seed++
		if call(h) != first || h.key != 0xe220a8397b1dcdaf {
			t.Errorf("%s: the key is computed again", name)
		}
	}
}
