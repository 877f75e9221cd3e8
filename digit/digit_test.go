package digit_test

import (
	"math"
	"math/big"
	"testing"

	"easement/digit"
)

// numbers are some of all sizes: around each power of two, patterns of bits, and many that are spread.
func numbers() []uint64 {
	l := []uint64{0, math.MaxUint64, 0x0123456789abcdef, 0xaaaaaaaaaaaaaaaa, 0x5555555555555555}
	for i := range 64 {
		p := uint64(1) << i
		l = append(l, p-1, p, p+1, ^p)
	}
	for i := range uint64(1000) {
		l = append(l, i, i*0x9e3779b97f4a7c15)
	}
	return l
}

// The constants that the chapter lists.
func TestSizes(t *testing.T) {
	if digit.Bits != 5 || digit.Wide != 32 || digit.Deep != 13 {
		t.Errorf("Bits is %d, Wide is %d, Deep is %d", digit.Bits, digit.Wide, digit.Deep)
	}
}

// The example of the chapter.
func TestExample(t *testing.T) {
	if n := digit.At(33, 1); n != 1 {
		t.Errorf("At(33, 1) is %d", n)
	}
	if n := digit.Levels(33); n != 2 {
		t.Errorf("Levels(33) is %d", n)
	}
}

// P5.1: At, of numbers whose digits are known.
func TestAt(t *testing.T) {
	for _, c := range []struct {
		n    uint64
		want [13]int
	}{
		{0, [13]int{}},
		{1, [13]int{1}},
		{31, [13]int{31}},
		{32, [13]int{0, 1}},
		{33, [13]int{1, 1}},
		{1023, [13]int{31, 31}},
		{1024, [13]int{0, 0, 1}},
		{1 << 31, [13]int{6: 2}},
		{1 << 32, [13]int{6: 4}},
		{1<<60 - 1, [13]int{31, 31, 31, 31, 31, 31, 31, 31, 31, 31, 31, 31}},
		{1 << 60, [13]int{12: 1}},
		{1 << 63, [13]int{12: 8}},
		{0x0123456789abcdef, [13]int{15, 15, 19, 23, 26, 4, 30, 12, 5, 26, 8, 2}},
		{math.MaxInt64, [13]int{31, 31, 31, 31, 31, 31, 31, 31, 31, 31, 31, 31, 7}},
		{math.MaxUint64, [13]int{31, 31, 31, 31, 31, 31, 31, 31, 31, 31, 31, 31, 15}},
	} {
		for range 2 {
			for level, want := range c.want {
				if got := digit.At(c.n, level); got != want {
					t.Errorf("At(%d, %d) is %d, want %d", c.n, level, got, want)
				}
			}
		}
	}
}

// P5.1: there is no digit of a level that is not from 0 to 12; some of these
// levels, times five, are beyond an int, or wrap round to a number of bits.
func TestAtBeyond(t *testing.T) {
	levels := []int{
		math.MinInt, math.MinInt + 1, math.MinInt32, -64, -13, -12, -2, -1,
		13, 14, 25, 26, 64, 1 << 31, 1 << 32, 1<<32 + 1, math.MaxInt - 1, math.MaxInt,
		math.MaxInt / 5, math.MaxInt/5 + 1, math.MaxUint64/5 + 1, math.MaxUint64/5 + 13, math.MinInt/5 - 1, -math.MaxUint64 / 5,
	}
	for _, n := range []uint64{0, 1, 33, 1 << 63, math.MaxInt64, math.MaxUint64} {
		for _, level := range levels {
			if got := digit.At(n, level); got != 0 {
				t.Errorf("At(%d, %d) is %d", n, level, got)
			}
		}
	}
}

// P5.3: a number is the sum of its digits, each times the power of 32 of its level.
func TestDigitsMakeNumber(t *testing.T) {
	for _, n := range numbers() {
		sum, power := new(big.Int), big.NewInt(1)
		for level := range digit.Deep {
			d := digit.At(n, level)
			if d < 0 || d > 31 {
				t.Fatalf("At(%d, %d) is %d", n, level, d)
			}
			sum.Add(sum, new(big.Int).Mul(power, big.NewInt(int64(d))))
			power.Mul(power, big.NewInt(32))
		}
		if sum.Cmp(new(big.Int).SetUint64(n)) != 0 {
			t.Errorf("the digits of %d are those of %d", n, sum)
		}
	}
}

// P5.3: no two numbers have the same digits.
func TestDigitsTellApart(t *testing.T) {
	seen := map[[digit.Deep]int]uint64{}
	for _, n := range numbers() {
		var l [digit.Deep]int
		for level := range l {
			l[level] = digit.At(n, level)
		}
		if other, ok := seen[l]; ok && other != n {
			t.Errorf("%d and %d have the same digits", n, other)
		}
		seen[l] = n
	}
}

// P5.3: each bit of a number is in one digit.
func TestBitChangesOneDigit(t *testing.T) {
	for _, n := range numbers() {
		for i := range 64 {
			for level := range digit.Deep {
				changed := digit.At(n, level) != digit.At(n^1<<i, level)
				if changed != (level == i/5) {
					t.Fatalf("bit %d of %d, level %d: changed %t", i, n, level, changed)
				}
			}
		}
	}
}

// P5.1: Levels, of the edges.
func TestLevels(t *testing.T) {
	for _, c := range []struct{ n, want int }{
		{math.MinInt, 0}, {math.MinInt + 1, 0}, {math.MinInt32, 0}, {-33, 0}, {-32, 0}, {-2, 0}, {-1, 0},
		{0, 0}, {1, 0}, {2, 1}, {3, 1}, {31, 1}, {32, 1}, {33, 2}, {34, 2}, {64, 2}, {1000, 2},
		{math.MaxInt32, 7}, {math.MaxInt32 + 1, 7}, {math.MaxUint32, 7}, {math.MaxUint32 + 1, 7},
		{1 << 61, 13}, {1 << 62, 13}, {math.MaxInt - 1, 13}, {math.MaxInt, 13},
	} {
		for range 2 {
			if got := digit.Levels(c.n); got != c.want {
				t.Errorf("Levels(%d) is %d, want %d", c.n, got, c.want)
			}
		}
	}
}

// P5.1: Levels, of every power of 32 that an int has room for, and of its neighbours.
func TestLevelsOfPowers(t *testing.T) {
	power := 32
	for h := 1; h <= 12; h++ {
		for _, c := range []struct{ n, want int }{{power - 1, h}, {power, h}, {power + 1, h + 1}} {
			if got := digit.Levels(c.n); got != c.want {
				t.Errorf("Levels(%d) is %d, want %d", c.n, got, c.want)
			}
		}
		power *= 32
	}
}

// P5.1: Levels is the least h for which 32^h is at least n, for many n.
func TestLevelsIsLeast(t *testing.T) {
	check := func(n int) {
		h, power := 0, big.NewInt(1)
		for power.Cmp(big.NewInt(int64(n))) < 0 {
			power.Mul(power, big.NewInt(32))
			h++
		}
		if got := digit.Levels(n); got != h {
			t.Errorf("Levels(%d) is %d, want %d", n, got, h)
		}
	}
	for n := -100; n < 40000; n++ {
		check(n)
	}
	for _, n := range numbers() {
		check(int(n))
	}
}
