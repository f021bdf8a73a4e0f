package exact

import (
	"math"
	"math/big"
	"slices"
	"testing"

	"regatta/api"
)

const (
	most  = math.MaxInt64
	least = math.MinInt64
)

// edges are the numbers at which 64 bits are about to end, and small ones on both sides of 0.
func edges() []int64 {
	l := []int64{least, least + 1, least + 2, least / 2, most / 2, most/2 + 1, most - 2, most - 1, most}
	for _, n := range []int64{3037000499, 3037000500, 1 << 31, 1<<31 - 1, 1 << 32, 1<<32 + 1, 1 << 40, 1<<62 - 1, 1 << 62, 4294967291} {
		l = append(l, n, -n)
	}
	for n := int64(-13); n <= 13; n++ {
		l = append(l, n)
	}
	return l
}

type pair func(a, b int64) (int64, api.Errno)

type told struct {
	n int64
	e api.Errno
}

type line struct {
	a, b int64
	want told
}

func checkLines(t *testing.T, name string, f pair, lines []line) {
	t.Helper()
	for _, x := range lines {
		if n, e := f(x.a, x.b); (told{n, e}) != x.want {
			t.Errorf("%s(%d, %d): %d, %d, want %v", name, x.a, x.b, n, e, x.want)
		}
	}
}

// fit is x as it is, or over with ErrOver.
func fit(x *big.Int) told {
	if !x.IsInt64() {
		return told{0, api.ErrOver}
	}
	return told{x.Int64(), api.OK}
}

// checkAll holds f against what is worked out without any bound, at all pairs of edges.
func checkAll(t *testing.T, name string, f pair, want func(a, b *big.Int) told) {
	t.Helper()
	for _, a := range edges() {
		for _, b := range edges() {
			w := want(big.NewInt(a), big.NewInt(b))
			if n, e := f(a, b); (told{n, e}) != w {
				t.Errorf("%s(%d, %d): %d, %d, want %v", name, a, b, n, e, w)
			}
		}
	}
}

// P1.1
func TestAdd(t *testing.T) {
	checkLines(t, "Add", Add, []line{
		{2, 3, told{5, api.OK}},
		{-2, 3, told{1, api.OK}},
		{most, 0, told{most, api.OK}},
		{most, 1, told{0, api.ErrOver}},
		{1, most, told{0, api.ErrOver}},
		{most, most, told{0, api.ErrOver}},
		{least, -1, told{0, api.ErrOver}},
		{-1, least, told{0, api.ErrOver}},
		{least, least, told{0, api.ErrOver}},
		{least, most, told{-1, api.OK}},
		{most - 1, 1, told{most, api.OK}},
		{least + 1, -1, told{least, api.OK}},
	})
	checkAll(t, "Add", Add, func(a, b *big.Int) told { return fit(new(big.Int).Add(a, b)) })
}

// P1.1
func TestSub(t *testing.T) {
	checkLines(t, "Sub", Sub, []line{
		{2, 3, told{-1, api.OK}},
		{3, -2, told{5, api.OK}},
		{least, 1, told{0, api.ErrOver}},
		{0, least, told{0, api.ErrOver}},
		{-1, least, told{most, api.OK}},
		{most, -1, told{0, api.ErrOver}},
		{most, least, told{0, api.ErrOver}},
		{least, least, told{0, api.OK}},
		{-1, most, told{least, api.OK}},
		{-2, most, told{0, api.ErrOver}},
	})
	checkAll(t, "Sub", Sub, func(a, b *big.Int) told { return fit(new(big.Int).Sub(a, b)) })
}

// P1.1
func TestMul(t *testing.T) {
	checkLines(t, "Mul", Mul, []line{
		{6, 7, told{42, api.OK}},
		{-6, 7, told{-42, api.OK}},
		{-6, -7, told{42, api.OK}},
		{0, least, told{0, api.OK}},
		{least, 0, told{0, api.OK}},
		{least, 1, told{least, api.OK}},
		{least, -1, told{0, api.ErrOver}},
		{-1, least, told{0, api.ErrOver}},
		{most, -1, told{-most, api.OK}},
		{least, least, told{0, api.ErrOver}},
		{most, most, told{0, api.ErrOver}},
		{1 << 32, 1 << 31, told{0, api.ErrOver}},
		{1 << 32, -1 << 31, told{least, api.OK}},
		{-1 << 31, 1 << 32, told{least, api.OK}},
		{1 << 32, 1 << 32, told{0, api.ErrOver}},
	})
	checkAll(t, "Mul", Mul, func(a, b *big.Int) told { return fit(new(big.Int).Mul(a, b)) })
}

// P1.2
func TestFloor(t *testing.T) {
	checkLines(t, "Floor", Floor, []line{
		{7, 2, told{3, api.OK}},
		{-7, 2, told{-4, api.OK}},
		{-1, 3, told{-1, api.OK}},
		{-6, 3, told{-2, api.OK}},
		{0, 5, told{0, api.OK}},
		{least, 1, told{least, api.OK}},
		{least, most, told{-2, api.OK}},
		{most, most, told{1, api.OK}},
		{most - 1, most, told{0, api.OK}},
		{1, 0, told{0, api.ErrZero}},
		{0, 0, told{0, api.ErrZero}},
		{least, 0, told{0, api.ErrZero}},
		{1, -1, told{0, api.ErrArg}},
		{0, -1, told{0, api.ErrArg}},
		{least, -1, told{0, api.ErrArg}},
		{least, least, told{0, api.ErrArg}},
	})
	// Euclid's division is the one rounded down, if what it divides by is above 0.
	checkAll(t, "Floor", Floor, parts(func(a, b *big.Int) *big.Int { return new(big.Int).Div(a, b) }))
}

// P1.2
func TestCeil(t *testing.T) {
	checkLines(t, "Ceil", Ceil, []line{
		{7, 2, told{4, api.OK}},
		{-7, 2, told{-3, api.OK}},
		{7, 3, told{3, api.OK}},
		{-1, 3, told{0, api.OK}},
		{6, 3, told{2, api.OK}},
		{0, 5, told{0, api.OK}},
		{most, 1, told{most, api.OK}},
		{least, 1, told{least, api.OK}},
		{least, most, told{-1, api.OK}},
		{1, most, told{1, api.OK}},
		{1, 0, told{0, api.ErrZero}},
		{0, 0, told{0, api.ErrZero}},
		{most, 0, told{0, api.ErrZero}},
		{1, -1, told{0, api.ErrArg}},
		{least, -1, told{0, api.ErrArg}},
		{most, least, told{0, api.ErrArg}},
	})
	checkAll(t, "Ceil", Ceil, parts(func(a, b *big.Int) *big.Int {
		down := new(big.Int).Div(new(big.Int).Neg(a), b)
		return down.Neg(down)
	}))
}

// parts is what Floor and Ceil tell, of which only the rounding differs.
func parts(round func(a, b *big.Int) *big.Int) func(a, b *big.Int) told {
	return func(a, b *big.Int) told {
		switch b.Sign() {
		case 0:
			return told{0, api.ErrZero}
		case -1:
			return told{0, api.ErrArg}
		}
		return fit(round(a, b))
	}
}

// P1.3
func TestGcd(t *testing.T) {
	checkLines(t, "Gcd", Gcd, []line{
		{12, 18, told{6, api.OK}},
		{18, 12, told{6, api.OK}},
		{5, 7, told{1, api.OK}},
		{0, 0, told{0, api.OK}},
		{0, 9, told{9, api.OK}},
		{9, 0, told{9, api.OK}},
		{most, 0, told{most, api.OK}},
		{most, most, told{most, api.OK}},
		{most, 49, told{49, api.OK}},
		{-1, 2, told{0, api.ErrArg}},
		{2, -1, told{0, api.ErrArg}},
		{0, -1, told{0, api.ErrArg}},
		{-1, 0, told{0, api.ErrArg}},
		{-4, -6, told{0, api.ErrArg}},
		{least, least, told{0, api.ErrArg}},
		{least, 0, told{0, api.ErrArg}},
	})
	checkAll(t, "Gcd", Gcd, func(a, b *big.Int) told {
		if a.Sign() < 0 || b.Sign() < 0 {
			return told{0, api.ErrArg}
		}
		return fit(new(big.Int).GCD(nil, nil, a, b))
	})
}

// bigLcm goes along l as P1.3 says, without any bound on what lies between.
func bigLcm(l ...int64) told {
	all := big.NewInt(1)
	for _, n := range l {
		if n < 1 {
			return told{0, api.ErrArg}
		}
		b := big.NewInt(n)
		common := new(big.Int).GCD(nil, nil, all, b)
		all.Mul(all, b).Div(all, common)
		if !all.IsInt64() {
			return told{0, api.ErrOver}
		}
	}
	return told{all.Int64(), api.OK}
}

// P1.3
func TestLcm(t *testing.T) {
	for _, x := range []struct {
		l    []int64
		want told
	}{
		{nil, told{1, api.OK}},
		{[]int64{}, told{1, api.OK}},
		{[]int64{1}, told{1, api.OK}},
		{[]int64{7}, told{7, api.OK}},
		{[]int64{most}, told{most, api.OK}},
		{[]int64{4, 6}, told{12, api.OK}},
		{[]int64{4, 6, 10}, told{60, api.OK}},
		{[]int64{10, 6, 4, 1}, told{60, api.OK}},
		{[]int64{most, most}, told{most, api.OK}},
		{[]int64{most, 7, 49, most}, told{most, api.OK}},
		{[]int64{1 << 62, 1 << 61}, told{1 << 62, api.OK}},
		{[]int64{1 << 62, 3}, told{0, api.ErrOver}},
		{[]int64{most, 2}, told{0, api.ErrOver}},
		{[]int64{1 << 32, 1<<31 - 1}, told{1<<63 - 1<<32, api.OK}},
		{[]int64{1 << 32, 1<<31 + 1}, told{0, api.ErrOver}},
		{[]int64{1 << 40, 3, 1<<62 - 1}, told{0, api.ErrOver}},
		{[]int64{0}, told{0, api.ErrArg}},
		{[]int64{-1}, told{0, api.ErrArg}},
		{[]int64{least}, told{0, api.ErrArg}},
		{[]int64{2, 0}, told{0, api.ErrArg}},
		{[]int64{0, 2}, told{0, api.ErrArg}},
		{[]int64{2, 3, least, 4}, told{0, api.ErrArg}},
	} {
		if n, e := Lcm(x.l...); (told{n, e}) != x.want {
			t.Errorf("Lcm(%v): %d, %d, want %v", x.l, n, e, x.want)
		}
	}
}

// P1.3: of both errors the first one met, along l.
func TestLcmFirstError(t *testing.T) {
	for _, x := range []struct {
		l    []int64
		want api.Errno
	}{
		{[]int64{most, 2, 0}, api.ErrOver},
		{[]int64{most, 0, 2}, api.ErrArg},
		{[]int64{0, most, 2}, api.ErrArg},
		{[]int64{1 << 62, 3, -1, 5}, api.ErrOver},
		{[]int64{1 << 62, -1, 3, 5}, api.ErrArg},
	} {
		if n, e := Lcm(x.l...); n != 0 || e != x.want {
			t.Errorf("Lcm(%v): %d, %d, want 0, %d", x.l, n, e, x.want)
		}
	}
}

// P1.3
func TestLcmAgainstBig(t *testing.T) {
	for _, a := range edges() {
		for _, b := range edges() {
			for _, l := range [][]int64{{a, b}, {6, a, b}, {a, 10, b}, {a, b, 0}} {
				if n, e := Lcm(l...); (told{n, e}) != bigLcm(l...) {
					t.Errorf("Lcm(%v): %d, %d, want %v", l, n, e, bigLcm(l...))
				}
			}
		}
	}
}

// P1.3: it is the least one, not just one that all divide.
func TestLcmIsLeast(t *testing.T) {
	for a := int64(1); a <= 24; a++ {
		for b := int64(1); b <= 24; b++ {
			want := int64(1)
			for want%a != 0 || want%b != 0 {
				want++
			}
			if n, e := Lcm(a, b); n != want || e != api.OK {
				t.Errorf("Lcm(%d, %d): %d, %d, want %d", a, b, n, e, want)
			}
		}
	}
}

// P1.4
func TestGcdTimesLcm(t *testing.T) {
	seen := 0
	for _, a := range edges() {
		for _, b := range edges() {
			if a < 1 || b < 1 {
				continue
			}
			g, ge := Gcd(a, b)
			l, le := Lcm(a, b)
			if ge != api.OK {
				t.Errorf("Gcd(%d, %d): error %d", a, b, ge)
			}
			if le != api.OK {
				continue
			}
			seen++
			left := new(big.Int).Mul(big.NewInt(g), big.NewInt(l))
			right := new(big.Int).Mul(big.NewInt(a), big.NewInt(b))
			if left.Cmp(right) != 0 {
				t.Errorf("Gcd(%d, %d) times Lcm: %v, want %v", a, b, left, right)
			}
		}
	}
	if seen < 200 {
		t.Errorf("only %d pairs have a common multiple of 63 bits", seen)
	}
}

// P1 and R5: a long row, and numbers at which dividing takes the most steps, are answered.
func TestLong(t *testing.T) {
	a, b := int64(1), int64(1)
	for b <= most-a {
		a, b = b, a+b
	}
	if n, e := Gcd(b, a); n != 1 || e != api.OK {
		t.Errorf("Gcd(%d, %d): %d, %d, want 1", b, a, n, e)
	}
	if n, e := Lcm(slices.Repeat([]int64{4, 6, 10}, 100000)...); n != 60 || e != api.OK {
		t.Errorf("Lcm of a long row: %d, %d, want 60", n, e)
	}
}

// R3 and R4: what is handed in stays as it is, and the same calls have the same answers.
func TestLcmLeavesItsNumbers(t *testing.T) {
	l := []int64{4, 6, 10, 15}
	was := slices.Clone(l)
	for range 2 {
		if n, e := Lcm(l...); n != 60 || e != api.OK {
			t.Errorf("Lcm(%v): %d, %d, want 60", l, n, e)
		}
	}
	if !slices.Equal(l, was) {
		t.Errorf("Lcm changed its numbers: %v, want %v", l, was)
	}
}
