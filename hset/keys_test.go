package hset_test

import (
	"encoding/hex"
	"fmt"
	"math"
	"slices"
	"testing"

	"easement/value"
)

// seed is that of all hashers here: the texts of chain were searched for it.
const seed = 7

// base is the hash with which each of those of chain has digits in common.
const base = 0xd1b54a32d192ed03

// row is a value, as the hexadecimal digits of its text, and its hash.
type row struct {
	text string
	hash uint64
}

// chain are values in their order: those whose hash has a lesser digit than base
// at a level, and all lower digits in common with it; those whose hash is base;
// and those with a greater digit.
func chain() []row {
	return []row{
		{"0c00000afc0004390f3a0d3f050ef105fa", base ^ 1},
		{"1700000206173d1e0e3d05057e0b0f0504", base ^ 8<<5},
		{"310000030b0406ff1606f20f30fb023d79", base ^ 1<<30},
		{"4f00000d100ffe0338780802061b07090f", base ^ 1<<55},
		{"56000000083a3e1ff6fb0f080ef8fa0216", base ^ 1<<60},
		{"0200007d0902020105103f0c0b3b140c1e", base},
		{"050000050d0f1906040705060230040a06", base},
		{"07000038730003050c3f31093b0903061f", base},
		{"090000090c1d060c061e3e0d050c07010a", base},
		{"0b000006f41602001d0302020c000f0918", base},
		{"570000023609050219050a14720b380006", base ^ 2<<60},
		{"530000030b0505320638160100033d051f", base ^ 4<<55},
		{"3300000b0d1b0707080b0b1b180f3cf10b", base ^ 4<<30},
		{"1800001c067603011b06050876001c0e15", base ^ 16<<5},
		{"0e0000131905190a03161b19363909050f", base ^ 4},
	}
}

// chained are the values of chain, in their order.
func chained(t *testing.T) []value.Value {
	t.Helper()
	var l []value.Value
	for _, r := range chain() {
		b, err := hex.DecodeString(r.text)
		if err != nil {
			t.Fatal(err)
		}
		l = append(l, value.Text(string(b)))
	}
	return l
}

// The values of chain have the hashes that it tells.
func TestChain(t *testing.T) {
	x := land(t, 1)
	for i, v := range chained(t) {
		if x.Of(v) != chain()[i].hash {
			t.Errorf("value %d has the hash %#x, want %#x", i, x.Of(v), chain()[i].hash)
		}
	}
}

// ordinary are n values of all kinds, all different.
func ordinary(n int) []value.Value {
	l := []value.Value{
		{}, value.Truth(false), value.Truth(true), value.Number(math.MinInt64), value.Number(-1), value.Number(math.MaxInt64),
		value.Text(""), value.Text("\x00"), value.Text("\xff\xfe"), value.Text(string(make([]byte, 4096))),
	}
	for i := range n {
		l = append(l, value.Number(int64(i)), value.Text(fmt.Sprint("value ", i)))
	}
	return l[:n]
}

// mixed are n values, of which those of chain and ordinary ones take turns as long as there are both, in no order.
func mixed(t *testing.T, n int) []value.Value {
	t.Helper()
	same := chained(t)
	slices.SortFunc(same, value.Compare)
	var l []value.Value
	for i, v := range ordinary(n) {
		if i < len(same) {
			l = append(l, same[i])
		}
		l = append(l, v)
	}
	return l[:n]
}

// family is some values, with a name.
type family struct {
	name string
	l    []value.Value
}

// families are those of which sets are made, from none to as many as a set may have.
func families(t *testing.T) []family {
	t.Helper()
	return []family{
		{"none", nil},
		{"Nil", ordinary(1)},
		{"one of many bytes", ordinary(10)[9:]},
		{"two with one hash", chained(t)[6:8]},
		{"three", ordinary(3)},
		{"chain", chained(t)},
		{"33", mixed(t, 33)},
		{"200 ordinary ones", ordinary(200)},
		{"1023", mixed(t, 1023)},
		{"1024", mixed(t, 1024)},
	}
}

// extra are values that none of the families has.
func extra(n int) []value.Value {
	var l []value.Value
	for i := range n {
		l = append(l, value.Text(fmt.Sprint("extra ", i)))
	}
	return l
}

// random is a source of numbers below others, the same for the same first number.
func random(n uint64) func(below int) int {
	return func(below int) int {
		n = n*6364136223846793005 + 1442695040888963407
		return int(n>>33) % below
	}
}

// shuffled are the same values in another order.
func shuffled(l []value.Value, first uint64) []value.Value {
	out := slices.Clone(l)
	next := random(first)
	for i := range out {
		j := next(i + 1)
		out[i], out[j] = out[j], out[i]
	}
	return out
}
