package ratio

import (
	"fmt"
	"math"
	"math/big"
	"slices"
	"strings"
	"testing"

	"regatta/api"
	"regatta/nat"
)

const top = math.MaxUint32

func w(e, p int64) api.Weight { return api.Weight{E: e, P: p} }

// row is the limbs of n, without a 0 at their end.
func row(n *big.Int) []uint32 {
	var a []uint32
	for rest := new(big.Int).Set(n); rest.Sign() > 0; rest.Rsh(rest, 32) {
		a = append(a, uint32(new(big.Int).And(rest, big.NewInt(top)).Uint64()))
	}
	return a
}

// toBig is a, worked out by chapter 2's words for a row of limbs.
func toBig(a []uint32) *big.Int {
	n := new(big.Int)
	for _, limb := range slices.Backward(a) {
		n.Lsh(n, 32).Add(n, big.NewInt(int64(limb)))
	}
	return n
}

// toRat is how much a is.
func toRat(a api.Ratio) *big.Rat { return new(big.Rat).SetFrac(toBig(a.Num), toBig(a.Den)) }

// fromRat is the least ratio that is as much as x: a Rat is kept that way.
func fromRat(x *big.Rat) api.Ratio { return api.Ratio{Num: row(x.Num()), Den: row(x.Denom())} }

// made is the ratio of two decimal texts.
func made(num, den string) api.Ratio {
	x, _ := new(big.Int).SetString(num, 10)
	y, _ := new(big.Int).SetString(den, 10)
	return api.Ratio{Num: row(x), Den: row(y)}
}

func equal(a, b api.Ratio) bool { return slices.Equal(a.Num, b.Num) && slices.Equal(a.Den, b.Den) }

func same(t *testing.T, what string, got, want api.Ratio) {
	t.Helper()
	if !equal(got, want) {
		t.Errorf("%s: %v, want %v", what, got, want)
	}
}

func copied(a api.Ratio) api.Ratio {
	return api.Ratio{Num: slices.Clone(a.Num), Den: slices.Clone(a.Den)}
}

// ratios are some of each kind: 0, whole, below 1, above 1, of short and of long numbers, the least and others that are as much.
func ratios() []api.Ratio {
	long := "340282366920938463463374607431768211456" // 2^128
	prime := "170141183460469231731687303715884105727"
	return []api.Ratio{
		made("0", "1"), made("0", "7"), made("0", long),
		made("1", "1"), made("5", "5"), made(prime, prime), made(long, long),
		made("1", "2"), made("2", "4"), made("2147483648", "4294967296"),
		made("1", "3"), made("1", "6"), made("5", "12"), made("41", "42"), made("7", "5"), made("12", "4"),
		made("9223372036854775807", "1"), made("1", "9223372036854775807"),
		made("9223372036854775808", "9223372036854775807"), made("18446744073709551615", "4294967297"),
		made("18446744073709551616", "6"), made("6", "18446744073709551616"),
		made(prime, long), made(long, prime), made("1", long), made("2", long), made(long, "1"),
		made(prime+"000000000000000000", long+"00000000000000"), made("3", long+"1"),
		{Num: slices.Repeat([]uint32{top}, 9), Den: slices.Repeat([]uint32{top}, 6)},
		{Num: append(make([]uint32, 8), 1), Den: append([]uint32{1}, append(make([]uint32, 5), 1<<31)...)},
		{Num: slices.Repeat([]uint32{0, 4294967291}, 5), Den: slices.Repeat([]uint32{1000000007, 12345}, 4)},
	}
}

// pairs goes over all pairs of ratios, beside how much they are.
func pairs(f func(a, b api.Ratio, x, y *big.Rat)) {
	for _, a := range ratios() {
		for _, b := range ratios() {
			f(a, b, toRat(a), toRat(b))
		}
	}
}

// wrong are ratios that may not be.
func wrong() []api.Ratio {
	return []api.Ratio{
		{},
		{Num: []uint32{}, Den: []uint32{}},
		{Num: []uint32{1}},
		{Num: []uint32{5, 6, 7}},
		{Den: []uint32{0}},
		{Num: []uint32{1}, Den: []uint32{0}},
		{Num: []uint32{1}, Den: []uint32{0, 0, 0}},
		{Num: []uint32{0}, Den: []uint32{1}},
		{Num: []uint32{1, 0}, Den: []uint32{2}},
		{Num: []uint32{1}, Den: []uint32{2, 0}},
		{Num: []uint32{1, 2, 0}, Den: []uint32{2, 3, 4, 0}},
		{Num: []uint32{0, 0}, Den: []uint32{0, 0}},
		{Num: make([]uint32, 50), Den: append([]uint32{top}, make([]uint32, 50)...)},
	}
}

// wrongWeights are weights whose E is below 0 or P below 1.
func wrongWeights() []api.Weight {
	return []api.Weight{
		{}, w(1, 0), w(-1, 1), w(0, 0), w(-1, 0), w(1, -1), w(-1, -1), w(0, -7), w(-3, 7),
		w(math.MinInt64, 1), w(1, math.MinInt64), w(math.MinInt64, math.MinInt64), w(math.MaxInt64, 0), w(-1, math.MaxInt64),
	}
}

// P3.1
func TestOf(t *testing.T) {
	for _, x := range []struct {
		w    api.Weight
		want api.Ratio
	}{
		{w(1, 2), api.Ratio{Num: []uint32{1}, Den: []uint32{2}}},
		{w(2, 4), api.Ratio{Num: []uint32{2}, Den: []uint32{4}}},
		{w(0, 1), api.Ratio{Den: []uint32{1}}},
		{w(0, 6), api.Ratio{Den: []uint32{6}}},
		{w(1, 1), api.Ratio{Num: []uint32{1}, Den: []uint32{1}}},
		{w(9, 3), api.Ratio{Num: []uint32{9}, Den: []uint32{3}}},
		{w(1<<32, 1<<40), api.Ratio{Num: []uint32{0, 1}, Den: []uint32{0, 256}}},
		{w(math.MaxInt64, math.MaxInt64), api.Ratio{Num: []uint32{top, 1<<31 - 1}, Den: []uint32{top, 1<<31 - 1}}},
	} {
		same(t, fmt.Sprint("Of ", x.w), Of(x.w), x.want)
	}
}

// P3.1
func TestWhole(t *testing.T) {
	for _, x := range []struct {
		n    uint64
		want []uint32
	}{
		{0, nil}, {1, []uint32{1}}, {1024, []uint32{1024}}, {1 << 32, []uint32{0, 1}}, {math.MaxUint64, []uint32{top, top}},
	} {
		same(t, fmt.Sprint("Whole ", x.n), Whole(x.n), api.Ratio{Num: x.want, Den: []uint32{1}})
	}
}

// P3.1
func TestCheck(t *testing.T) {
	for _, a := range ratios() {
		if !Check(a) {
			t.Errorf("Check(%v): false", a)
		}
	}
	for _, a := range wrong() {
		if Check(a) {
			t.Errorf("Check(%v): true", a)
		}
	}
	for _, x := range []struct {
		a    api.Ratio
		want bool
	}{
		{api.Ratio{Num: []uint32{}, Den: []uint32{1}}, true},
		{api.Ratio{Num: []uint32{0, 1}, Den: []uint32{0, 0, 1}}, true},
		{api.Ratio{Num: []uint32{2}, Den: []uint32{2}}, true},
		{Of(w(0, 1)), true}, {Of(w(math.MaxInt64, 1)), true}, {Whole(0), true}, {Sum(), true},
	} {
		if got := Check(x.a); got != x.want {
			t.Errorf("Check(%v): %v, want %v", x.a, got, x.want)
		}
	}
}

// P3.1
func TestLeast(t *testing.T) {
	for _, x := range []struct{ a, want api.Ratio }{
		{made("0", "1"), made("0", "1")},
		{made("0", "5"), made("0", "1")},
		{made("0", "36893488147419103232"), made("0", "1")},
		{made("1", "1"), made("1", "1")},
		{made("5", "5"), made("1", "1")},
		{made("6", "4"), made("3", "2")},
		{made("3", "2"), made("3", "2")},
		{made("8", "2"), made("4", "1")},
		{made("36893488147419103232", "73786976294838206464"), made("1", "2")},
		{made("100000000000000000000000000000000000000", "75000000000000000000000000000000000000"), made("4", "3")},
	} {
		same(t, fmt.Sprint("Least ", x.a), Least(x.a), x.want)
	}
	for _, a := range ratios() {
		same(t, fmt.Sprint("Least ", a), Least(a), fromRat(toRat(a)))
		same(t, fmt.Sprint("Least of Least ", a), Least(Least(a)), Least(a))
	}
}

// P3.1: whatever both are multiplied by is found again.
func TestLeastOfMultiples(t *testing.T) {
	for _, a := range ratios() {
		for _, b := range ratios() {
			more := api.Ratio{Num: nat.Mul(a.Num, b.Den), Den: nat.Mul(a.Den, b.Den)}
			same(t, fmt.Sprint("Least ", more), Least(more), fromRat(toRat(a)))
		}
	}
}

// P3.1
func TestText(t *testing.T) {
	for _, x := range []struct {
		a    api.Ratio
		want string
	}{
		{made("0", "1"), "0"},
		{made("0", "9"), "0"},
		{made("1", "1"), "1"},
		{made("4", "4"), "1"},
		{made("12", "4"), "3"},
		{made("1", "2"), "1/2"},
		{made("2", "4"), "1/2"},
		{made("8", "12"), "2/3"},
		{made("3", "2"), "3/2"},
		{made("10", "1"), "10"},
		{made("10", "11"), "10/11"},
		{made("1", "10"), "1/10"},
		{made("1", "4294967297"), "1/4294967297"},
		{made("18446744073709551616", "1"), "18446744073709551616"},
		{made("18446744073709551616", "18446744073709551617"), "18446744073709551616/18446744073709551617"},
		{made("36893488147419103232", "36893488147419103234"), "18446744073709551616/18446744073709551617"},
	} {
		if got := Text(x.a); got != x.want {
			t.Errorf("Text(%v): %s, want %s", x.a, got, x.want)
		}
	}
	for _, a := range ratios() {
		if got, want := Text(a), toRat(a).RatString(); got != want {
			t.Errorf("Text(%v): %s, want %s", a, got, want)
		}
	}
}

// P3.2
func TestAdd(t *testing.T) {
	for _, x := range []struct {
		a, b api.Weight
		want string
	}{
		{w(0, 1), w(0, 1), "0"},
		{w(0, 3), w(0, 7), "0"},
		{w(0, 3), w(2, 4), "1/2"},
		{w(1, 3), w(1, 6), "1/2"},
		{w(1, 2), w(1, 2), "1"},
		{w(1, 2), w(1, 3), "5/6"},
		{w(2, 4), w(3, 6), "1"},
		{w(3, 2), w(1, 2), "2"},
		{w(1, 4), w(1, 6), "5/12"},
		{w(1, math.MaxInt64), w(1, math.MaxInt64-1), "18446744073709551613/85070591730234615838173535747377725442"},
	} {
		got := Add(Of(x.a), Of(x.b))
		if Text(got) != x.want || !equal(got, Least(got)) {
			t.Errorf("Add(%v, %v): %v, want %s", x.a, x.b, got, x.want)
		}
	}
	pairs(func(a, b api.Ratio, x, y *big.Rat) {
		same(t, x.String()+" + "+y.String(), Add(a, b), fromRat(new(big.Rat).Add(x, y)))
	})
}

// P3.2
func TestSub(t *testing.T) {
	for _, x := range []struct {
		a, b api.Weight
		want api.Ratio
		e    api.Errno
	}{
		{w(0, 1), w(0, 1), made("0", "1"), api.OK},
		{w(0, 5), w(0, 3), made("0", "1"), api.OK},
		{w(1, 2), w(0, 3), made("1", "2"), api.OK},
		{w(1, 2), w(1, 3), made("1", "6"), api.OK},
		{w(1, 2), w(1, 6), made("1", "3"), api.OK},
		{w(1, 2), w(1, 2), made("0", "1"), api.OK},
		{w(2, 4), w(1, 2), made("0", "1"), api.OK},
		{w(1, 2), w(2, 4), made("0", "1"), api.OK},
		{w(6, 4), w(1, 2), made("1", "1"), api.OK},
		{w(1, 3), w(1, 2), api.Ratio{}, api.ErrOver},
		{w(0, 1), w(1, 2), api.Ratio{}, api.ErrOver},
		{w(0, 1), w(1, math.MaxInt64), api.Ratio{}, api.ErrOver},
		{w(2, 4), w(4, 6), api.Ratio{}, api.ErrOver},
		{w(math.MaxInt64-1, math.MaxInt64), w(1, 1), api.Ratio{}, api.ErrOver},
		{w(1, 1), w(math.MaxInt64-1, math.MaxInt64), made("1", "9223372036854775807"), api.OK},
	} {
		got, e := Sub(Of(x.a), Of(x.b))
		if !equal(got, x.want) || e != x.e {
			t.Errorf("Sub(%v, %v): %v, %d, want %v, %d", x.a, x.b, got, e, x.want, x.e)
		}
	}
	pairs(func(a, b api.Ratio, x, y *big.Rat) {
		want, wantE := api.Ratio{}, api.ErrOver
		if x.Cmp(y) >= 0 {
			want, wantE = fromRat(new(big.Rat).Sub(x, y)), api.OK
		}
		if got, e := Sub(a, b); !equal(got, want) || e != wantE {
			t.Errorf("Sub(%v, %v): %v, %d, want %v, %d", x, y, got, e, want, wantE)
		}
	})
}

// P3.2
func TestCmp(t *testing.T) {
	for _, x := range []struct {
		a, b api.Weight
		want int
	}{
		{w(0, 1), w(0, 9), 0},
		{w(0, 9), w(1, math.MaxInt64), -1},
		{w(1, 2), w(2, 4), 0},
		{w(1, 3), w(1, 2), -1},
		{w(2, 3), w(1, 2), 1},
		{w(3, 1), w(2, 1), 1},
		{w(1, 1), w(math.MaxInt64, math.MaxInt64), 0},
		{w(math.MaxInt64-1, math.MaxInt64), w(math.MaxInt64-2, math.MaxInt64-1), 1},
		{w(math.MaxInt64-2, math.MaxInt64-1), w(math.MaxInt64-1, math.MaxInt64), -1},
	} {
		if got := Cmp(Of(x.a), Of(x.b)); got != x.want {
			t.Errorf("Cmp(%v, %v): %d, want %d", x.a, x.b, got, x.want)
		}
	}
	pairs(func(a, b api.Ratio, x, y *big.Rat) {
		if got := Cmp(a, b); got != x.Cmp(y) {
			t.Errorf("Cmp(%v, %v): %d, want %d", x, y, got, x.Cmp(y))
		}
	})
}

// P3.2
func TestSum(t *testing.T) {
	for _, x := range []struct {
		l    []api.Weight
		want api.Ratio
	}{
		{nil, made("0", "1")},
		{[]api.Weight{}, made("0", "1")},
		{[]api.Weight{w(0, 5)}, made("0", "1")},
		{[]api.Weight{w(2, 4)}, made("1", "2")},
		{[]api.Weight{w(1, 3), w(1, 6)}, made("1", "2")},
		{[]api.Weight{w(0, 3), w(0, 7), w(3, 9)}, made("1", "3")},
		{[]api.Weight{w(1, 2), w(1, 3), w(1, 7)}, made("41", "42")},
		{[]api.Weight{w(2, 3), w(2, 3), w(2, 3)}, made("2", "1")},
		{[]api.Weight{w(math.MaxInt64, 1), w(math.MaxInt64, 1), w(2, 1)}, made("18446744073709551616", "1")},
	} {
		same(t, fmt.Sprint("Sum ", x.l), Sum(x.l...), x.want)
	}
}

// many are n weights whose periods have few divisors in common.
func many(n int) []api.Weight {
	l := make([]api.Weight, n)
	for i := range l {
		l[i] = w(int64(i)*7919%104729, int64(i)*15485863%(1<<20)+1)
	}
	return l
}

// P3.2: a sum of many is exact, however long its numbers become.
func TestSumOfMany(t *testing.T) {
	l, want := many(200), new(big.Rat)
	for _, x := range l {
		want.Add(want, big.NewRat(x.E, x.P))
	}
	same(t, "200 weights", Sum(l...), fromRat(want))
}

// P3.3
func TestSumsHangOnNoOrder(t *testing.T) {
	l := many(40)
	turned := slices.Clone(l)
	slices.Reverse(turned)
	same(t, "turned round", Sum(turned...), Sum(l...))
	for cut := range l {
		same(t, "begun elsewhere", Sum(slices.Concat(l[cut:], l[:cut])...), Sum(l...))
		same(t, "in two parts", Add(Sum(l[:cut]...), Sum(l[cut:]...)), Sum(l...))
	}
	one := Whole(0)
	for _, x := range l {
		one = Add(one, Of(x))
	}
	same(t, "one by one", one, Sum(l...))
	pairs(func(a, b api.Ratio, x, y *big.Rat) {
		same(t, "a + b, b + a", Add(a, b), Add(b, a))
		if Cmp(a, b) != -Cmp(b, a) {
			t.Errorf("Cmp(%v, %v) does not turn round", x, y)
		}
		c := made("6", "55340232221128654848")
		same(t, "a + b + c", Add(Add(a, b), c), Add(a, Add(b, c)))
	})
}

// P3.3
func TestAddedIsTakenAway(t *testing.T) {
	pairs(func(a, b api.Ratio, x, y *big.Rat) {
		back, e := Sub(Add(a, b), b)
		if !equal(back, Least(a)) || e != api.OK {
			t.Errorf("%v + %v - %v: %v, %d", x, y, y, back, e)
		}
		if less, e := Sub(a, b); e == api.OK {
			same(t, "a - b + b", Add(less, b), Least(a))
		}
	})
	sum, l := Sum(many(40)...), many(40)
	for _, x := range l {
		var e api.Errno
		if sum, e = Sub(sum, Of(x)); e != api.OK {
			t.Fatalf("%v can't be taken away: %d", x, e)
		}
	}
	same(t, "all taken away", sum, made("0", "1"))
}

// P3.1, P3.2: ratios that are as much, but written by other numbers, are told alike.
func TestWrittenByOtherNumbers(t *testing.T) {
	pairs(func(a, b api.Ratio, _, _ *big.Rat) {
		a2 := api.Ratio{Num: nat.Mul(a.Num, b.Den), Den: nat.Mul(a.Den, b.Den)}
		rest, e := Sub(a, b)
		rest2, e2 := Sub(a2, b)
		same(t, "Add", Add(a2, b), Add(a, b))
		same(t, "Sub", rest2, rest)
		if e != e2 || Cmp(a2, b) != Cmp(a, b) || Cmp(a, a2) != 0 || Text(a2) != Text(a) {
			t.Errorf("%v and %v are not told alike", a, a2)
		}
	})
}

// P3.1, P3.2: all told may be, and is the least.
func TestToldMayBe(t *testing.T) {
	least := func(what string, a api.Ratio) {
		t.Helper()
		if !Check(a) || new(big.Int).GCD(nil, nil, toBig(a.Num), toBig(a.Den)).Cmp(big.NewInt(1)) != 0 {
			t.Errorf("%s: %v is not the least ratio, or none", what, a)
		}
	}
	pairs(func(a, b api.Ratio, _, _ *big.Rat) {
		least("Add", Add(a, b))
		if rest, e := Sub(a, b); e == api.OK {
			least("Sub", rest)
		}
		least("Least", Least(a))
	})
	least("Sum", Sum())
	for n := range 30 {
		least("Sum", Sum(many(n)...))
	}
}

// P1: of what may not be the calls end, and Check tells so.
func TestWrong(t *testing.T) {
	for _, a := range wrong() {
		for _, b := range append(ratios(), wrong()...) {
			for _, pair := range [][2]api.Ratio{{a, b}, {b, a}} {
				if sum := Add(pair[0], pair[1]); Check(sum) {
					t.Errorf("Add(%v, %v): %v", pair[0], pair[1], sum)
				}
				if rest, _ := Sub(pair[0], pair[1]); Check(rest) {
					t.Errorf("Sub(%v, %v): %v", pair[0], pair[1], rest)
				}
				Cmp(pair[0], pair[1])
			}
		}
		if least := Least(a); Check(least) {
			t.Errorf("Least(%v): %v", a, least)
		}
		Text(a)
	}
}

// P1
func TestWrongWeights(t *testing.T) {
	for _, x := range wrongWeights() {
		for _, a := range []api.Ratio{Of(x), Sum(x), Sum(w(1, 2), x), Sum(x, w(1, 2)), Sum(w(1, 3), x, x, w(1, 2)), Add(Of(x), Whole(1)), Least(Of(x))} {
			if Check(a) {
				t.Errorf("made of %v: %v", x, a)
			}
			Text(a)
		}
	}
}

// R3: what is handed in stays as it is, also behind its end, and what is told shares nothing with it, nor with another answer.
func TestMemory(t *testing.T) {
	num, den := []uint32{top, 0, 7, 99, 98}, []uint32{1, 8, 0, 1, 97}
	a, b := api.Ratio{Num: num[:3], Den: den[:4]}, made("1", "1")
	zero := api.Ratio{Den: den[:2]}
	was, wasDen := slices.Clone(num), slices.Clone(den)
	told := func() []api.Ratio {
		rest, _ := Sub(a, zero)
		none, _ := Sub(a, a)
		return []api.Ratio{Add(a, b), Add(b, a), Add(a, zero), Add(zero, a), rest, none, Least(a), Least(zero), Of(w(2, 4)), Whole(3), Sum()}
	}
	first, kept, copies := told(), told(), []api.Ratio{}
	for _, x := range kept {
		copies = append(copies, copied(x))
	}
	for _, x := range first {
		for _, l := range [][]uint32{x.Num, x.Den} {
			for i := range l {
				l[i] = 5
			}
			_ = append(l, 5)
		}
	}
	Cmp(a, a)
	Text(a)
	if !slices.Equal(num, was) || !slices.Equal(den, wasDen) {
		t.Errorf("what was handed in: %v, %v, was %v, %v", num, den, was, wasDen)
	}
	same(t, "the other ratio", b, made("1", "1"))
	for i := range num {
		num[i], den[i] = 6, 6
	}
	for i := range kept {
		same(t, "what was told, behind changes of others", kept[i], copies[i])
	}
}

// R3: Sum keeps its hands off the list that is spread for it.
func TestSumLeavesItsList(t *testing.T) {
	l := many(20)
	Sum(l...)
	if !slices.Equal(l, many(20)) {
		t.Errorf("weights behind Sum: %v", l)
	}
}

// R5: long numbers, and long lists, are answered.
func TestLong(t *testing.T) {
	nines := strings.Repeat("9", 3000)
	long := made(nines+"0", nines+"7")
	whole := api.Ratio{Num: nat.Mul(long.Num, long.Den), Den: long.Num}
	if got := Text(whole); got != nines+"7" {
		t.Errorf("a ratio of 6000 digits: %d digits", len(got))
	}
	if got, e := Sub(Add(long, whole), long); !equal(got, Least(whole)) || e != api.OK {
		t.Errorf("a ratio of 6000 digits does not come back: %d", e)
	}
	if got := Text(Sum(slices.Repeat([]api.Weight{w(1, 3)}, 30000)...)); got != "10000" {
		t.Errorf("30000 times 1/3: %s", got)
	}
}

// edges are all rows of one to n limbs at which a digit of a quotient is hard to guess.
func edges(n int) [][]uint32 {
	var all [][]uint32
	longest := [][]uint32{nil}
	for range n {
		var longer [][]uint32
		for _, a := range longest {
			for _, limb := range []uint32{0, 1, 1<<31 - 1, 1 << 31, top} {
				longer = append(longer, append(slices.Clone(a), limb))
			}
		}
		all, longest = append(all, longer...), longer
	}
	return slices.DeleteFunc(all, func(a []uint32) bool { return a[len(a)-1] == 0 })
}

// P3.1, P3.2 lean on it: the whole part and what is left are exact.
func TestDivide(t *testing.T) {
	check := func(a, b []uint32) {
		t.Helper()
		x, y := new(big.Int).QuoRem(toBig(a), toBig(b), new(big.Int))
		whole, left := divide(a, b)
		if !slices.Equal(whole, row(x)) || !slices.Equal(left, row(y)) {
			t.Errorf("divide(%v, %v): %v, %v, want %v, %v", a, b, whole, left, row(x), row(y))
		}
	}
	for _, b := range edges(3) {
		for _, a := range edges(4) {
			check(a, b)
		}
		check(nil, b)
	}
	// A number just below a multiple of b makes the guess too great, just at it just right.
	one := big.NewInt(1)
	for _, b := range edges(4) {
		for _, q := range edges(2) {
			n := new(big.Int).Mul(toBig(b), toBig(q))
			check(row(n), b)
			check(row(new(big.Int).Sub(n, one)), b)
			check(row(new(big.Int).Add(n, one)), b)
			n.Lsh(n, 64)
			check(row(new(big.Int).Sub(n, one)), b)
		}
	}
}
