package scan_test

import (
	"encoding/hex"
	"fmt"
	"math"
	"slices"
	"testing"

	"easement/hamt"
	"easement/value"
)

// seed is that of all hashers here, but where another one is named: the texts of chain were searched for it.
const seed = 7

// base is the hash with which each of those of chain has digits in common.
const base = 0xd1b54a32d192ed03

// row is a key, as the hexadecimal digits of its text, and its hash.
type row struct {
	text string
	hash uint64
}

// chain are keys in their order: those whose hash has a lesser digit than base,
// at level 0, 1 and so on up to 12, and all lower digits in common with it; those
// whose hash is base; and those with a greater digit, at level 12, 11 and so on.
func chain() []row {
	return []row{
		{"0c00000afc0004390f3a0d3f050ef105fa", base ^ 1},
		{"1700000206173d1e0e3d05057e0b0f0504", base ^ 8<<5},
		{"1900000a010b1e05041a10000774020e02", base ^ 1<<10},
		{"1e00000cf1001e1d03ff0805070a3e0100", base ^ 1<<15},
		{"2400000403050f0f060e051a020803050e", base ^ 1<<20},
		{"2f000034023e020c00033e1d1c0c0d1e3c", base ^ 8<<25},
		{"310000030b0406ff1606f20f30fb023d79", base ^ 1<<30},
		{"390000033a17170c0a1d1e191e0206190a", base ^ 2<<35},
		{"3f0000180a070409f9080107ff0b121f76", base ^ 2<<40},
		{"450000031835393e1d1f011908181e1137", base ^ 2<<45},
		{"4a00000c7df0000a040002370c05030e03", base ^ 1<<50},
		{"4f00000d100ffe0338780802061b07090f", base ^ 1<<55},
		{"56000000083a3e1ff6fb0f080ef8fa0216", base ^ 1<<60},
		{"0200007d0902020105103f0c0b3b140c1e", base},
		{"050000050d0f1906040705060230040a06", base},
		{"07000038730003050c3f31093b0903061f", base},
		{"090000090c1d060c061e3e0d050c07010a", base},
		{"0b000006f41602001d0302020c000f0918", base},
		{"570000023609050219050a14720b380006", base ^ 2<<60},
		{"530000030b0505320638160100033d051f", base ^ 4<<55},
		{"4b0000000a00050103160a0a397c071905", base ^ 2<<50},
		{"4400000500030402130b05060207020b00", base ^ 1<<45},
		{"3e00003f021d0b04070c7b0b0411040008", base ^ 1<<40},
		{"3800000a3e0b193c023c1d1a1d0d1a0a06", base ^ 1<<35},
		{"3300000b0d1b0707080b0b1b180f3cf10b", base ^ 4<<30},
		{"2a00000005fe041e1c060c093a3c0307f6", base ^ 1<<25},
		{"26000001060705043c040b75080d0d060d", base ^ 2<<20},
		{"1f0000110d020e09071d08011f0534090c", base ^ 2<<15},
		{"1b0000073a08740003f501180819030904", base ^ 4<<10},
		{"1800001c067603011b06050876001c0e15", base ^ 16<<5},
		{"0e0000131905190a03161b19363909050f", base ^ 4},
	}
}

// chained are the keys of chain, in their order.
func chained(t *testing.T) []value.Value {
	t.Helper()
	var l []value.Value
	for _, r := range chain() {
		b, err := hex.DecodeString(r.text)
		if err != nil {
			t.Fatal(err)
		}
		l = append(l, value.Text(string(b)))
	}
	return l
}

// The keys of chain have the hashes that it tells: at each level two of them part from base, and five don't.
func TestChain(t *testing.T) {
	x := land(t, 1)
	level := map[int]int{}
	for i, k := range chained(t) {
		if x.Of(k) != chain()[i].hash {
			t.Errorf("key %d has the hash %#x, want %#x", i, x.Of(k), chain()[i].hash)
		}
		n := 0
		for g, h := x.Of(k), uint64(base); n < 13 && g%32 == h%32; n++ {
			g, h = g/32, h/32
		}
		level[n]++
	}
	for n := range 13 {
		if level[n] != 2 {
			t.Errorf("%d keys part from base at level %d", level[n], n)
		}
	}
	if level[13] != 5 {
		t.Errorf("%d keys have the hash base", level[13])
	}
}

// ordinary are n keys of all kinds, all different.
func ordinary(n int) []value.Value {
	l := []value.Value{
		{}, value.Truth(false), value.Truth(true), value.Number(math.MinInt64), value.Number(-1), value.Number(math.MaxInt64),
		value.Text(""), value.Text("\x00"), value.Text("\xff\xfe"), value.Text(string(make([]byte, 4096))),
	}
	for i := range n {
		l = append(l, value.Number(int64(i)), value.Text(fmt.Sprint("key ", i)))
	}
	return l[:n]
}

// mixed are n keys of all kinds, of which those of chain are the first ones, in no order.
func mixed(t *testing.T, n int) []value.Value {
	t.Helper()
	l := chained(t)
	slices.SortFunc(l, value.Compare)
	return append(l, ordinary(n)...)[:n]
}

// family is some keys, with a name.
type family struct {
	name string
	keys []value.Value
}

// families are those of which maps are made, from none to as many as a map may have.
func families(t *testing.T) []family {
	t.Helper()
	return []family{
		{"none", nil},
		{"one", ordinary(1)},
		{"two with one hash", chained(t)[14:16]},
		{"three", ordinary(3)},
		{"chain", chained(t)},
		{"63", mixed(t, 63)},
		{"64", mixed(t, 64)},
		{"65", mixed(t, 65)},
		{"200 ordinary ones", ordinary(200)},
		{"1023", mixed(t, 1023)},
		{"1024", mixed(t, 1024)},
	}
}

// numbered are the pairs of keys, each with its place as its value.
func numbered(l []value.Value) []hamt.Pair {
	var out []hamt.Pair
	for i, k := range l {
		out = append(out, hamt.Pair{Key: k, Value: value.Number(int64(i))})
	}
	return out
}
