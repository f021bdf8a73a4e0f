package nat

import (
	"math"
	"math/big"
	"slices"
	"strings"
	"testing"

	"regatta/api"
)

const top = math.MaxUint32

// rows are all rows of up to three limbs, of those at which a carry begins or ends, that may be or may not.
func rows() [][]uint32 {
	all := [][]uint32{nil}
	longest := all
	for range 3 {
		var longer [][]uint32
		for _, row := range longest {
			for _, n := range []uint32{0, 1, 1 << 31, top} {
				longer = append(longer, append(slices.Clone(row), n))
			}
		}
		all = append(all, longer...)
		longest = longer
	}
	return all
}

// numbers are those rows that may be, and some longer ones.
func numbers() [][]uint32 {
	all := slices.DeleteFunc(rows(), func(a []uint32) bool { return len(a) > 0 && a[len(a)-1] == 0 })
	return append(all,
		slices.Repeat([]uint32{top}, 7),
		append(make([]uint32, 7), 1),
		append([]uint32{1}, append(make([]uint32, 5), 1)...),
		[]uint32{3405691582, 0, 0, 12345, top - 1, 2},
		[]uint32{1000000000, 999999999, 10, 9, 1000000007},
		slices.Repeat([]uint32{0, 4294967291}, 10),
	)
}

// toBig is a, worked out by the chapter's words for a row of limbs.
func toBig(a []uint32) *big.Int {
	n := new(big.Int)
	for _, limb := range slices.Backward(a) {
		n.Lsh(n, 32).Add(n, big.NewInt(int64(limb)))
	}
	return n
}

// fromBig is the row of limbs of n, without a 0 at its end.
func fromBig(n *big.Int) []uint32 {
	var a []uint32
	for rest := new(big.Int).Set(n); rest.Sign() > 0; rest.Rsh(rest, 32) {
		a = append(a, uint32(new(big.Int).And(rest, big.NewInt(top)).Uint64()))
	}
	return a
}

func same(t *testing.T, what string, got, want []uint32) {
	t.Helper()
	if !slices.Equal(got, want) {
		t.Errorf("%s: %v, want %v", what, got, want)
	}
}

// pairs goes over all pairs of numbers, beside what they are.
func pairs(f func(a, b []uint32, x, y *big.Int)) {
	for _, a := range numbers() {
		for _, b := range numbers() {
			f(a, b, toBig(a), toBig(b))
		}
	}
}

// P2.1
func TestOf(t *testing.T) {
	for _, x := range []struct {
		n    uint64
		want []uint32
	}{
		{0, nil},
		{1, []uint32{1}},
		{top, []uint32{top}},
		{1 << 32, []uint32{0, 1}},
		{1<<32 + 7, []uint32{7, 1}},
		{1 << 63, []uint32{0, 1 << 31}},
		{math.MaxUint64, []uint32{top, top}},
	} {
		same(t, "Of "+toBig(x.want).String(), Of(x.n), x.want)
	}
}

// P2.1
func TestCheck(t *testing.T) {
	for _, x := range []struct {
		a    []uint32
		want bool
	}{
		{nil, true},
		{[]uint32{}, true},
		{[]uint32{0}, false},
		{[]uint32{0, 0}, false},
		{[]uint32{1}, true},
		{[]uint32{1, 0}, false},
		{[]uint32{top, top, 0}, false},
		{[]uint32{0, 1}, true},
		{[]uint32{0, 0, top}, true},
	} {
		if got := Check(x.a); got != x.want {
			t.Errorf("Check(%v): %v, want %v", x.a, got, x.want)
		}
	}
}

// P2.1
func TestCmp(t *testing.T) {
	for _, x := range []struct {
		a, b []uint32
		want int
	}{
		{nil, nil, 0},
		{nil, []uint32{}, 0},
		{nil, []uint32{1}, -1},
		{[]uint32{1}, nil, 1},
		{[]uint32{7}, []uint32{7}, 0},
		{[]uint32{top}, []uint32{0, 1}, -1},
		{[]uint32{0, 1}, []uint32{top}, 1},
		{[]uint32{1, 2}, []uint32{2, 1}, 1},
		{[]uint32{2, 1}, []uint32{1, 2}, -1},
		{[]uint32{1, 5}, []uint32{2, 5}, -1},
		{[]uint32{1 << 31}, []uint32{1}, 1},
	} {
		if got := Cmp(x.a, x.b); got != x.want {
			t.Errorf("Cmp(%v, %v): %d, want %d", x.a, x.b, got, x.want)
		}
	}
	pairs(func(a, b []uint32, x, y *big.Int) {
		if got := Cmp(a, b); got != x.Cmp(y) {
			t.Errorf("Cmp(%v, %v): %d, want %d", x, y, got, x.Cmp(y))
		}
	})
}

// P2.1
func TestAdd(t *testing.T) {
	same(t, "0 and 0", Add(nil, []uint32{}), nil)
	same(t, "0 and 5", Add(nil, []uint32{5}), []uint32{5})
	same(t, "5 and 0", Add([]uint32{5}, nil), []uint32{5})
	same(t, "2 and 3", Add([]uint32{2}, []uint32{3}), []uint32{5})
	same(t, "a carry", Add([]uint32{top}, []uint32{1}), []uint32{0, 1})
	same(t, "a carry over several limbs", Add([]uint32{1}, []uint32{top, top, top}), []uint32{0, 0, 0, 1})
	same(t, "the greatest limbs", Add([]uint32{top, top}, []uint32{top, top}), []uint32{top - 1, top, 1})
	pairs(func(a, b []uint32, x, y *big.Int) {
		want := new(big.Int).Add(x, y)
		same(t, x.String()+" + "+y.String(), Add(a, b), fromBig(want))
	})
}

// P2.1
func TestSub(t *testing.T) {
	for _, x := range []struct {
		a, b, want []uint32
		e          api.Errno
	}{
		{nil, nil, nil, api.OK},
		{[]uint32{5}, nil, []uint32{5}, api.OK},
		{[]uint32{5}, []uint32{3}, []uint32{2}, api.OK},
		{[]uint32{5}, []uint32{5}, nil, api.OK},
		{[]uint32{1, 2, 3}, []uint32{1, 2, 3}, nil, api.OK},
		{[]uint32{2, 2, 3}, []uint32{1, 2, 3}, []uint32{1}, api.OK},
		{[]uint32{0, 1}, []uint32{1}, []uint32{top}, api.OK},
		{[]uint32{0, 0, 0, 1}, []uint32{1}, []uint32{top, top, top}, api.OK},
		{[]uint32{0, 0, 1}, []uint32{top, top}, []uint32{1}, api.OK},
		{nil, []uint32{1}, nil, api.ErrOver},
		{[]uint32{5}, []uint32{6}, nil, api.ErrOver},
		{[]uint32{top}, []uint32{0, 1}, nil, api.ErrOver},
		{[]uint32{top, 1}, []uint32{0, 2}, nil, api.ErrOver},
	} {
		got, e := Sub(x.a, x.b)
		if !slices.Equal(got, x.want) || e != x.e {
			t.Errorf("Sub(%v, %v): %v, %d, want %v, %d", x.a, x.b, got, e, x.want, x.e)
		}
	}
	pairs(func(a, b []uint32, x, y *big.Int) {
		got, e := Sub(a, b)
		want, wantE := fromBig(new(big.Int).Sub(x, y)), api.OK
		if x.Cmp(y) < 0 {
			want, wantE = nil, api.ErrOver
		}
		if !slices.Equal(got, want) || e != wantE {
			t.Errorf("Sub(%v, %v): %v, %d, want %v, %d", x, y, got, e, want, wantE)
		}
	})
}

// P2.1
func TestMul(t *testing.T) {
	same(t, "0 and 0", Mul(nil, nil), nil)
	same(t, "0 and 5", Mul(nil, []uint32{5}), nil)
	same(t, "5 and 0", Mul([]uint32{5, 5}, nil), nil)
	same(t, "6 and 7", Mul([]uint32{6}, []uint32{7}), []uint32{42})
	same(t, "a carry", Mul([]uint32{1 << 31}, []uint32{2}), []uint32{0, 1})
	same(t, "the greatest limbs", Mul([]uint32{top}, []uint32{top}), []uint32{1, top - 1})
	same(t, "more of the greatest", Mul([]uint32{top, top}, []uint32{top, top}), []uint32{1, 0, top - 1, top})
	if got := Text(Mul(Of(4294967296), Of(4294967296))); got != "18446744073709551616" {
		t.Errorf("Mul of 4294967296 and 4294967296: %s", got)
	}
	pairs(func(a, b []uint32, x, y *big.Int) {
		want := new(big.Int).Mul(x, y)
		same(t, x.String()+" * "+y.String(), Mul(a, b), fromBig(want))
	})
}

// divisors are those at which what is left is the greatest, and those that cut digits.
func divisors() []uint32 {
	return []uint32{1, 2, 3, 7, 10, 1 << 16, 1000000000, 1<<31 - 1, 1 << 31, 1<<31 + 1, top - 1, top}
}

// P2.1
func TestDiv(t *testing.T) {
	for _, x := range []struct {
		a    []uint32
		d    uint32
		q    []uint32
		r    uint32
		want api.Errno
	}{
		{nil, 1, nil, 0, api.OK},
		{[]uint32{7}, 2, []uint32{3}, 1, api.OK},
		{[]uint32{7}, 7, []uint32{1}, 0, api.OK},
		{[]uint32{7}, 8, nil, 7, api.OK},
		{[]uint32{0, 1}, 2, []uint32{1 << 31}, 0, api.OK},
		{[]uint32{1, 1}, top, []uint32{1}, 2, api.OK},
		{[]uint32{top, top}, top, []uint32{1, 1}, 0, api.OK},
		{[]uint32{top, top - 1}, top, []uint32{top}, top - 1, api.OK},
		{nil, 0, nil, 0, api.ErrZero},
		{[]uint32{7}, 0, nil, 0, api.ErrZero},
		{[]uint32{0, 1}, 0, nil, 0, api.ErrZero},
	} {
		q, r, e := Div(x.a, x.d)
		if !slices.Equal(q, x.q) || r != x.r || e != x.want {
			t.Errorf("Div(%v, %d): %v, %d, %d, want %v, %d, %d", x.a, x.d, q, r, e, x.q, x.r, x.want)
		}
	}
	for _, a := range numbers() {
		for _, d := range divisors() {
			whole, left := new(big.Int).QuoRem(toBig(a), big.NewInt(int64(d)), new(big.Int))
			q, r, e := Div(a, d)
			if !slices.Equal(q, fromBig(whole)) || uint64(r) != left.Uint64() || e != api.OK {
				t.Errorf("Div(%v, %d): %v, %d, %d, want %v, %v", a, d, q, r, e, whole, left)
			}
		}
	}
}

// P2.2
func TestText(t *testing.T) {
	for _, x := range []struct {
		a    []uint32
		want string
	}{
		{nil, "0"},
		{[]uint32{}, "0"},
		{[]uint32{9}, "9"},
		{[]uint32{10}, "10"},
		{[]uint32{999999999}, "999999999"},
		{[]uint32{1000000000}, "1000000000"},
		{[]uint32{1000000001}, "1000000001"},
		{[]uint32{top}, "4294967295"},
		{[]uint32{0, 1}, "4294967296"},
		{Of(1000000000000000000), "1000000000000000000"},
		{Of(1000000000000000020), "1000000000000000020"},
		{Of(999999999000000000), "999999999000000000"},
		{Of(math.MaxUint64), "18446744073709551615"},
	} {
		if got := Text(x.a); got != x.want {
			t.Errorf("Text(%v): %s, want %s", x.a, got, x.want)
		}
	}
	for _, a := range numbers() {
		if got, want := Text(a), toBig(a).String(); got != want {
			t.Errorf("Text(%v): %s, want %s", a, got, want)
		}
	}
}

// P2.2
func TestParse(t *testing.T) {
	for _, x := range []struct {
		s    string
		want []uint32
	}{
		{"0", nil},
		{"1", []uint32{1}},
		{"9", []uint32{9}},
		{"10", []uint32{10}},
		{"999999999", []uint32{999999999}},
		{"1000000000", []uint32{1000000000}},
		{"4294967295", []uint32{top}},
		{"4294967296", []uint32{0, 1}},
		{"18446744073709551615", []uint32{top, top}},
		{"18446744073709551616", []uint32{0, 0, 1}},
	} {
		got, e := Parse(x.s)
		if !slices.Equal(got, x.want) || e != api.OK {
			t.Errorf("Parse(%q): %v, %d, want %v", x.s, got, e, x.want)
		}
	}
	// Each length of a last piece of digits, with the least and the greatest digits.
	for n := range 60 {
		for _, s := range []string{"1" + strings.Repeat("0", n), "9" + strings.Repeat("9", n)} {
			want, _ := new(big.Int).SetString(s, 10)
			got, e := Parse(s)
			if !slices.Equal(got, fromBig(want)) || e != api.OK {
				t.Errorf("Parse(%q): %v, %d, want %v", s, got, e, fromBig(want))
			}
		}
	}
}

// P2.2
func TestParseWrong(t *testing.T) {
	wrong := []string{"", "00", "01", "007", "0000000000", "-1", "+1", "-0", "+", "-", " ", " 1", "1 ", "1 2", "1\n", "\x00", "1\x00",
		"0x10", "1e9", "1_000", "1,000", "1.0", "a", "12a", "/", ":", "1/", "1:", "\xff", "1\xff", "٣", "１", "1²",
		strings.Repeat("1", 50) + "x", "x" + strings.Repeat("1", 50), strings.Repeat("0", 50)}
	for _, s := range wrong {
		if got, e := Parse(s); len(got) != 0 || e != api.ErrForm {
			t.Errorf("Parse(%q): %v, %d, want nothing and ErrForm", s, got, e)
		}
	}
	for c := range 256 {
		digit := c >= '0' && c <= '9'
		for _, s := range []string{"1" + string([]byte{byte(c)}), "1" + string([]byte{byte(c)}) + "23456789012"} {
			if _, e := Parse(s); (e == api.OK) != digit || e != api.OK && e != api.ErrForm {
				t.Errorf("Parse(%q): %d", s, e)
			}
		}
	}
}

// P2.3
func TestSumsTurnRound(t *testing.T) {
	pairs(func(a, b []uint32, x, y *big.Int) {
		same(t, "a + b, b + a", Add(a, b), Add(b, a))
		same(t, "a * b, b * a", Mul(a, b), Mul(b, a))
		if Cmp(a, b) != -Cmp(b, a) {
			t.Errorf("Cmp(%v, %v) does not turn round", x, y)
		}
		back, e := Sub(Add(a, b), b)
		if e != api.OK || !slices.Equal(back, a) {
			t.Errorf("%v + %v - %v: %v, %d", x, y, y, back, e)
		}
		if less, e := Sub(a, b); e == api.OK {
			same(t, "a - b + b", Add(less, b), a)
		}
	})
}

// P2.3
func TestMultipliedAndDivided(t *testing.T) {
	for _, a := range numbers() {
		for _, d := range divisors() {
			q, r, e := Div(Mul(a, Of(uint64(d))), d)
			if !slices.Equal(q, a) || r != 0 || e != api.OK {
				t.Errorf("%v times and by %d: %v, %d, %d", a, d, q, r, e)
			}
			q, r, _ = Div(a, d)
			same(t, "the whole part times d, and what is left", Add(Mul(q, Of(uint64(d))), Of(uint64(r))), a)
		}
	}
}

// P2.3
func TestTextsComeBack(t *testing.T) {
	for _, a := range numbers() {
		back, e := Parse(Text(a))
		if !slices.Equal(back, a) || e != api.OK {
			t.Errorf("Parse of Text of %v: %v, %d", a, back, e)
		}
	}
	for _, s := range []string{"0", "7", "1000000000000000000000000000000", "123456789012345678901234567890", strings.Repeat("9", 999), "1" + strings.Repeat("0", 999)} {
		a, e := Parse(s)
		if got := Text(a); got != s || e != api.OK {
			t.Errorf("Text of Parse of %q: %q, %d", s, got, e)
		}
	}
}

// P2.1: all told may be.
func TestToldMayBe(t *testing.T) {
	may := func(what string, a []uint32) {
		t.Helper()
		if len(a) > 0 && a[len(a)-1] == 0 || !Check(a) {
			t.Errorf("%s: %v may not be", what, a)
		}
	}
	pairs(func(a, b []uint32, _, _ *big.Int) {
		may("Add", Add(a, b))
		may("Mul", Mul(a, b))
		rest, _ := Sub(a, b)
		may("Sub", rest)
	})
	for _, a := range numbers() {
		for _, d := range divisors() {
			q, _, _ := Div(a, d)
			may("Div", q)
		}
		back, _ := Parse(Text(a))
		may("Parse", back)
	}
	for n := range 70 {
		may("Of", Of(1<<n))
	}
}

// P1: rows that may not be are answered too, by calls that end and do not panic.
func TestRowsThatMayNotBe(t *testing.T) {
	for _, a := range append(rows(), make([]uint32, 40)) {
		for _, b := range append(rows(), make([]uint32, 40)) {
			Cmp(a, b)
			Add(a, b)
			Sub(a, b)
			Mul(a, b)
		}
		for _, d := range append(divisors(), 0) {
			Div(a, d)
		}
		Text(a)
		if got, want := Check(a), len(a) == 0 || a[len(a)-1] != 0; got != want {
			t.Errorf("Check(%v): %v, want %v", a, got, want)
		}
	}
}

// R3: what is handed in stays as it is, also behind its end, and what is told shares nothing with it.
func TestMemory(t *testing.T) {
	whole := []uint32{top, 0, 7, 99, 98}
	was := slices.Clone(whole)
	a, one := whole[:3], []uint32{1}
	told := func() [][]uint32 {
		rest, _ := Sub(a, one)
		all, _ := Sub(a, nil)
		q, _, _ := Div(a, 1)
		return [][]uint32{Add(a, one), Add(a, nil), Add(nil, a), Mul(a, one), Mul(one, a), rest, all, q}
	}
	first := told()
	Cmp(a, a)
	Text(a)
	Check(a)
	same(t, "what was handed in", whole, was)
	for _, row := range first {
		for i := range row {
			row[i] = 5
		}
		_ = append(row, 5)
	}
	same(t, "what was handed in, behind changes of what was told", whole, was)
	same(t, "the other number", one, []uint32{1})

	kept := told()
	copies := told()
	for i := range whole {
		whole[i] = 6
	}
	for i := range kept {
		same(t, "what was told, behind changes of what was handed in", kept[i], copies[i])
	}
}

// R3: two answers of the same call are two rows.
func TestToldApart(t *testing.T) {
	for _, f := range []func() []uint32{
		func() []uint32 { return Of(1 << 40) },
		func() []uint32 { a, _ := Parse("1099511627776"); return a },
	} {
		a, b := f(), f()
		a[0], a[1] = 3, 3
		same(t, "another answer", b, []uint32{0, 256})
	}
}

// R5: long numbers are answered.
func TestLong(t *testing.T) {
	s := strings.Repeat("9", 20000)
	a, e := Parse(s)
	if got := Text(a); got != s || e != api.OK {
		t.Errorf("20000 digits do not come back: %d digits, %d", len(got), e)
	}
	ten := Add(a, Of(1))
	if got, want := Text(ten), "1"+strings.Repeat("0", 20000); got != want {
		t.Errorf("a carry over 20000 digits: %d digits", len(got))
	}
	if got, want := Text(Mul(a, a)), strings.Repeat("9", 19999)+"8"+strings.Repeat("0", 19999)+"1"; got != want {
		t.Errorf("20000 digits squared: %d digits", len(got))
	}
	if back, e := Sub(ten, a); !slices.Equal(back, []uint32{1}) || e != api.OK {
		t.Errorf("a borrow over 20000 digits: %d limbs, %d", len(back), e)
	}
}
