package window

import (
	"fmt"
	"math"
	"math/big"
	"testing"

	"regatta/api"
)

const (
	top   = 1 << 40 // the greatest number of a subtask
	end   = 1 << 62 // the last slot that one may be told of
	most  = math.MaxInt64
	least = math.MinInt64
)

func w(e, p int64) api.Weight { return api.Weight{E: e, P: p} }

// small are all weights whose period is at most 24, those that are not in lowest terms among them.
func small() []api.Weight {
	var l []api.Weight
	for p := int64(1); p <= 24; p++ {
		for e := int64(1); e <= p; e++ {
			l = append(l, w(e, p))
		}
	}
	return l
}

// great are weights of great periods: light ones, heavy ones, those just on either side, and 1.
func great() []api.Weight {
	const p = api.MaxP
	return []api.Weight{
		w(1, p), w(2, p), w(3, p), w(7, p), w(349525, p),
		w(p/2-1, p), w(p/2, p), w(p/2+1, p), w(699051, p), w(p-7, p), w(p-2, p), w(p-1, p), w(p, p),
		w(1, p-1), w(p/2-1, p-1), w(p/2, p-1), w(p-2, p-1), w(p-1, p-1),
		w(524287, 1048573), w(524286, 1048573), w(1, 1), w(1, 2), w(2, 3), w(8, 11), w(1, 3),
	}
}

// numbers are numbers of subtasks, both ends and what lies by powers of 2 among them.
func numbers() []int64 {
	l := []int64{1, 2, 3, 5, 7, 11, 1000003, 999999999989, top / 3, top / 3 * 2}
	for bit := 2; bit <= 40; bit++ {
		l = append(l, 1<<bit-1, 1<<bit)
		if bit < 40 {
			l = append(l, 1<<bit+1)
		}
	}
	return l
}

// each goes over small weights with all the numbers of three periods, and over great ones with numbers of all sizes.
func each(f func(w api.Weight, i int64)) {
	for _, x := range small() {
		for i := int64(1); i <= 3*x.P; i++ {
			f(x, i)
		}
	}
	for _, x := range great() {
		for _, i := range numbers() {
			f(x, i)
		}
	}
}

// wrongWeights are weights that may not be.
func wrongWeights() []api.Weight {
	return []api.Weight{
		{}, w(0, 1), w(0, 7), w(0, api.MaxP), w(-1, 1), w(-3, 7), w(1, 0), w(1, -1), w(-1, -1), w(-7, -3), w(0, -1),
		w(2, 1), w(8, 7), w(api.MaxP, api.MaxP-1), w(api.MaxP+1, api.MaxP),
		w(1, api.MaxP+1), w(api.MaxP, api.MaxP+1), w(api.MaxP+1, api.MaxP+1), w(1, most), w(most, most), w(most, 1), w(1<<62, 1<<62),
		w(least, least), w(least, 1), w(1, least), w(least, most), w(most, least), w(1<<32+1, 1<<32+2),
	}
}

// wrongNumbers are no numbers of subtasks.
func wrongNumbers() []int64 {
	return []int64{0, -1, -2, -top, least, least + 1, top + 1, top + 2, 2 * top, 1 << 62, most - 1, most}
}

// ratio is i P / E, as it is.
func ratio(w api.Weight, i int64) *big.Rat {
	return new(big.Rat).SetFrac(new(big.Int).Mul(big.NewInt(i), big.NewInt(w.P)), big.NewInt(w.E))
}

func roundDown(x *big.Rat) int64 { return new(big.Int).Div(x.Num(), x.Denom()).Int64() }
func roundUp(x *big.Rat) int64   { return -roundDown(new(big.Rat).Neg(x)) }

// groupEnd is k P / (P - E), rounded up.
func groupEnd(w api.Weight, k int64) int64 {
	return roundUp(ratio(api.Weight{E: w.P - w.E, P: w.P}, k))
}

func same(t *testing.T, what string, w api.Weight, i int64, got, want any) {
	t.Helper()
	if got != want {
		t.Errorf("%s(%d/%d, %d): %v, want %v", what, w.E, w.P, i, got, want)
	}
}

// P4.1
func TestCheck(t *testing.T) {
	for _, l := range [][]api.Weight{small(), great()} {
		for _, x := range l {
			if !Check(x) {
				t.Errorf("Check(%v): false, want true", x)
			}
		}
	}
	for _, x := range wrongWeights() {
		if Check(x) {
			t.Errorf("Check(%v): true, want false", x)
		}
	}
}

// P4.1
func TestHeavy(t *testing.T) {
	for _, x := range []struct {
		w    api.Weight
		want bool
	}{
		{w(1, 1), true}, {w(5, 5), true}, {w(8, 11), true}, {w(2, 7), false},
		{w(1, 2), true}, {w(2, 4), true}, {w(2, 5), false}, {w(3, 5), true}, {w(5, 11), false}, {w(6, 11), true}, {w(5, 10), true}, {w(4, 10), false},
		{w(1, api.MaxP), false}, {w(api.MaxP/2-1, api.MaxP), false}, {w(api.MaxP/2, api.MaxP), true}, {w(api.MaxP, api.MaxP), true},
		{w(api.MaxP/2-1, api.MaxP-1), false}, {w(api.MaxP/2, api.MaxP-1), true},
	} {
		if got := Heavy(x.w); got != x.want {
			t.Errorf("Heavy(%v): %t, want %t", x.w, got, x.want)
		}
	}
	for _, x := range wrongWeights() {
		if Heavy(x) {
			t.Errorf("Heavy(%v): true of a weight that may not be", x)
		}
	}
}

// P4.1 and P4.2: the windows of some weights, written out as release, deadline, bit and group, from a number on.
func TestExamples(t *testing.T) {
	for _, x := range []struct {
		w    api.Weight
		from int64
		want [][4]int64
	}{
		{w(8, 11), 1, [][4]int64{{0, 2, 1, 4}, {1, 3, 1, 4}, {2, 5, 1, 8}, {4, 6, 1, 8}, {5, 7, 1, 8}, {6, 9, 1, 11}, {8, 10, 1, 11}, {9, 11, 0, 11}, {11, 13, 1, 15}}},
		{w(16, 22), 1, [][4]int64{{0, 2, 1, 4}, {1, 3, 1, 4}, {2, 5, 1, 8}, {4, 6, 1, 8}, {5, 7, 1, 8}, {6, 9, 1, 11}, {8, 10, 1, 11}, {9, 11, 0, 11}, {11, 13, 1, 15}}},
		{w(2, 7), 1, [][4]int64{{0, 4, 1, 0}, {3, 7, 0, 0}, {7, 11, 1, 0}}},
		{w(1, 2), 1, [][4]int64{{0, 2, 0, 2}, {2, 4, 0, 4}}},
		{w(3, 6), 1, [][4]int64{{0, 2, 0, 2}, {2, 4, 0, 4}}},
		{w(2, 3), 1, [][4]int64{{0, 2, 1, 3}, {1, 3, 0, 3}, {3, 5, 1, 6}}},
		{w(1, 1), 1, [][4]int64{{0, 1, 0, 1}, {1, 2, 0, 2}}},
		{w(3, 3), 1, [][4]int64{{0, 1, 0, 1}, {1, 2, 0, 2}}},
		{w(3, 3), top, [][4]int64{{top - 1, top, 0, top}}},
		{w(api.MaxP, api.MaxP), top, [][4]int64{{top - 1, top, 0, top}}},
		{w(6, 11), 1, [][4]int64{{0, 2, 1, 3}, {1, 4, 1, 5}, {3, 6, 1, 7}, {5, 8, 1, 9}, {7, 10, 1, 11}, {9, 11, 0, 11}}},
		{w(5, 11), 1, [][4]int64{{0, 3, 1, 0}, {2, 5, 1, 0}, {4, 7, 1, 0}, {6, 9, 1, 0}, {8, 11, 0, 0}}},
		{w(1, api.MaxP), 1, [][4]int64{{0, api.MaxP, 0, 0}, {api.MaxP, 2 * api.MaxP, 0, 0}}},
		{w(1, api.MaxP), top, [][4]int64{{1<<60 - 1<<20, 1 << 60, 0, 0}}},
		{w(api.MaxP-1, api.MaxP), 1, [][4]int64{{0, 2, 1, api.MaxP}, {1, 3, 1, api.MaxP}}},
		{w(api.MaxP-1, api.MaxP), api.MaxP - 1, [][4]int64{{api.MaxP - 2, api.MaxP, 0, api.MaxP}, {api.MaxP, api.MaxP + 2, 1, 2 * api.MaxP}}},
		{w(api.MaxP/2, api.MaxP), top, [][4]int64{{2*top - 2, 2 * top, 0, 2 * top}}},
	} {
		for n, row := range x.want {
			i := x.from + int64(n)
			want := api.Sub{Index: i, Release: row[0], Deadline: row[1], Bit: int(row[2]), Group: row[3]}
			same(t, "Release", x.w, i, Release(x.w, i), want.Release)
			same(t, "Deadline", x.w, i, Deadline(x.w, i), want.Deadline)
			same(t, "Bit", x.w, i, Bit(x.w, i), want.Bit)
			same(t, "Group", x.w, i, Group(x.w, i), want.Group)
			same(t, "Long", x.w, i, Long(x.w, i), want.Deadline-want.Release)
			got, e := Of(x.w, i, 0)
			same(t, "Of", x.w, i, fmt.Sprint(got, int(e)), fmt.Sprint(want, 0))
		}
	}
}

// P4.1, held against fractions without any bound.
func TestWindows(t *testing.T) {
	each(func(w api.Weight, i int64) {
		ends := ratio(w, i)
		release, deadline := roundDown(ratio(w, i-1)), roundUp(ends)
		bit := 1
		if ends.IsInt() {
			bit = 0
		}
		same(t, "Release", w, i, Release(w, i), release)
		same(t, "Deadline", w, i, Deadline(w, i), deadline)
		same(t, "Bit", w, i, Bit(w, i), bit)
		same(t, "Long", w, i, Long(w, i), deadline-release)
	})
}

// P4.2, by its words: of small weights from k = 0 on, of great ones from a k on whose end lies below the deadline.
func TestGroups(t *testing.T) {
	each(func(w api.Weight, i int64) {
		deadline := roundUp(ratio(w, i))
		want := int64(0)
		switch {
		case 2*w.E < w.P:
		case w.E == w.P:
			want = deadline
		default:
			k := int64(0)
			if w.P > 24 || i > 72 {
				k = max(0, roundDown(ratio(api.Weight{E: w.P, P: w.P - w.E}, deadline))-2)
			}
			if groupEnd(w, k) >= deadline {
				t.Fatalf("%v, %d: the search begins at the deadline, or behind it", w, i)
			}
			for want < deadline {
				want = groupEnd(w, k)
				k++
			}
		}
		same(t, "Group", w, i, Group(w, i), want)
	})
}

// P4.2, by what a group is: windows of two slots that overlap one another, up to one that does not overlap the next, or up to one of three slots.
func TestGroupsAsRows(t *testing.T) {
	for _, x := range small() {
		if 2*x.E < x.P {
			continue
		}
		for i := int64(1); i <= 2*x.P; i++ {
			want := int64(0)
			for k := i; want == 0 && k <= 3*x.P; k++ {
				switch {
				case k > i && Long(x, k) == 3:
					want = Deadline(x, k) - 1
				case Bit(x, k) == 0:
					want = Deadline(x, k)
				}
			}
			same(t, "Group", x, i, Group(x, i), want)
		}
	}
}

// P4.3
func TestOf(t *testing.T) {
	offsets := []int64{0, 1, 2, 10, 1 << 40, 1 << 61, end - 1<<61, end - 1<<60, end - 1, end, end + 1, most - 1, most}
	each(func(w api.Weight, i int64) {
		release, deadline, group := Release(w, i), Deadline(w, i), Group(w, i)
		last := max(deadline, group)
		for _, offset := range append([]int64{end - release, end - deadline, end - group, end - last, end - last + 1}, offsets...) {
			if offset < 0 {
				continue
			}
			want, wrong := api.Sub{}, api.ErrOver
			if last <= end && offset <= end-last {
				want, wrong = api.Sub{Index: i, Release: release + offset, Deadline: deadline + offset, Bit: Bit(w, i)}, api.OK
				if 2*w.E >= w.P {
					want.Group = group + offset
				}
			}
			if got, e := Of(w, i, offset); got != want || e != wrong {
				t.Fatalf("Of(%v, %d, %d): %v, %d, want %v, %d", w, i, offset, got, e, want, wrong)
			}
		}
	})
}

// P4.3: slots at 2^62, and just above it.
func TestOfAtItsEnd(t *testing.T) {
	for _, x := range []struct {
		w         api.Weight
		i, offset int64
		want      api.Sub
		e         api.Errno
	}{
		{w(2, 7), 2, 10, api.Sub{Index: 2, Release: 13, Deadline: 17}, api.OK},
		{w(8, 11), 3, 100, api.Sub{Index: 3, Release: 102, Deadline: 105, Bit: 1, Group: 108}, api.OK},
		// Release is there first: the deadline is above it then.
		{w(2, 7), 1, end, api.Sub{}, api.ErrOver},
		{w(2, 7), 1, end + 1, api.Sub{}, api.ErrOver},
		{w(2, 7), 2, end - 3, api.Sub{}, api.ErrOver},
		{w(2, 7), 2, end - 2, api.Sub{}, api.ErrOver},
		{w(1, 1), 1, end, api.Sub{}, api.ErrOver},
		// Deadline of light ones: a Group of 0 stays 0.
		{w(2, 7), 1, end - 4, api.Sub{Index: 1, Release: end - 4, Deadline: end, Bit: 1}, api.OK},
		{w(2, 7), 1, end - 3, api.Sub{}, api.ErrOver},
		{w(1, api.MaxP), 1, end - api.MaxP, api.Sub{Index: 1, Release: end - api.MaxP, Deadline: end}, api.OK},
		{w(1, api.MaxP), 1, end - api.MaxP + 1, api.Sub{}, api.ErrOver},
		{w(1, api.MaxP), top, end - 1<<60, api.Sub{Index: top, Release: end - 1<<20, Deadline: end}, api.OK},
		{w(1, api.MaxP), top, end - 1<<60 + 1, api.Sub{}, api.ErrOver},
		// Group of heavy ones, whose deadlines are below 2^62 still.
		{w(8, 11), 1, end - 4, api.Sub{Index: 1, Release: end - 4, Deadline: end - 2, Bit: 1, Group: end}, api.OK},
		{w(8, 11), 1, end - 3, api.Sub{}, api.ErrOver},
		{w(8, 11), 1, end - 2, api.Sub{}, api.ErrOver},
		{w(api.MaxP-1, api.MaxP), 1, end - api.MaxP, api.Sub{Index: 1, Release: end - api.MaxP, Deadline: end - api.MaxP + 2, Bit: 1, Group: end}, api.OK},
		{w(api.MaxP-1, api.MaxP), 1, end - api.MaxP + 1, api.Sub{}, api.ErrOver},
		{w(1, 1), 1, end - 1, api.Sub{Index: 1, Release: end - 1, Deadline: end, Group: end}, api.OK},
		{w(1, 1), top, end - top, api.Sub{Index: top, Release: end - 1, Deadline: end, Group: end}, api.OK},
		{w(1, 1), top, end - top + 1, api.Sub{}, api.ErrOver},
		// Sums that need more than 63 bits.
		{w(1, 1), 1, most, api.Sub{}, api.ErrOver},
		{w(1, api.MaxP), top, most, api.Sub{}, api.ErrOver},
		{w(8, 11), 1, most - 1, api.Sub{}, api.ErrOver},
		// Of both errors the one that is named first.
		{w(8, 11), 0, most, api.Sub{}, api.ErrArg},
		{w(8, 11), top + 1, most, api.Sub{}, api.ErrArg},
		{w(12, 11), 1, most, api.Sub{}, api.ErrArg},
		{w(8, 11), 1, -1, api.Sub{}, api.ErrArg},
		{w(8, 11), 5, -4, api.Sub{}, api.ErrArg},
	} {
		if got, e := Of(x.w, x.i, x.offset); got != x.want || e != x.e {
			t.Errorf("Of(%v, %d, %d): %v, %d, want %v, %d", x.w, x.i, x.offset, got, e, x.want, x.e)
		}
	}
}

// nothing asks all calls of a weight and a number that have no subtask.
func nothing(t *testing.T, w api.Weight, i int64) {
	t.Helper()
	same(t, "Release", w, i, Release(w, i), int64(0))
	same(t, "Deadline", w, i, Deadline(w, i), int64(0))
	same(t, "Bit", w, i, Bit(w, i), 0)
	same(t, "Group", w, i, Group(w, i), int64(0))
	same(t, "Long", w, i, Long(w, i), int64(0))
	for _, offset := range []int64{0, 1, end, end + 1, most, -1, least} {
		got, e := Of(w, i, offset)
		same(t, fmt.Sprint("Of at ", offset), w, i, fmt.Sprint(got, int(e)), fmt.Sprint(api.Sub{}, int(api.ErrArg)))
	}
}

// P4.1 to P4.3, and P1: weights that may not be, and numbers that are none.
func TestWrong(t *testing.T) {
	for _, x := range wrongWeights() {
		for _, i := range append(wrongNumbers(), numbers()...) {
			nothing(t, x, i)
		}
	}
	for _, l := range [][]api.Weight{small(), great()} {
		for _, x := range l {
			for _, i := range wrongNumbers() {
				nothing(t, x, i)
			}
			for _, offset := range []int64{-1, -2, -top, least, least + 1} {
				if got, e := Of(x, 1, offset); got != (api.Sub{}) || e != api.ErrArg {
					t.Errorf("Of(%v, 1, %d): %v, %d, want nothing, ErrArg", x, offset, got, e)
				}
			}
		}
	}
}

// P4.4: each is released at the deadline of the one ahead, or one slot ahead of it.
func TestWindowsFollow(t *testing.T) {
	each(func(w api.Weight, i int64) {
		if i == top {
			return
		}
		same(t, "Release of the next one", w, i, Release(w, i+1), Deadline(w, i)-int64(Bit(w, i)))
	})
	for _, x := range append(small(), great()...) {
		same(t, "Release", x, 1, Release(x, 1), int64(0))
	}
}

// P4.4: what a period has, each one has, a period later.
func TestPeriodsAreTheSame(t *testing.T) {
	each(func(w api.Weight, i int64) {
		if i > top-w.E {
			return
		}
		ahead, e := Of(w, i, w.P)
		ahead.Index += w.E
		next, f := Of(w, i+w.E, 0)
		if ahead != next || e != api.OK || f != api.OK || Long(w, i) != Long(w, i+w.E) {
			t.Errorf("%v, %d: %v, %d, a period later %v, %d", w, i, ahead, e, next, f)
		}
	})
}

// P4.4: P slots have E windows, in each period, which end with it.
func TestPeriodsHaveTheirShare(t *testing.T) {
	for _, x := range small() {
		counts := [3]int64{}
		for i := int64(1); i <= 4*x.P; i++ {
			at := Release(x, i) / x.P
			if Deadline(x, i) > (at+1)*x.P {
				t.Errorf("%v, %d: the window is of two periods", x, i)
			}
			if at < 3 {
				counts[at]++
			}
		}
		if counts != [3]int64{x.E, x.E, x.E} {
			t.Errorf("%v: %v windows in its periods", x, counts)
		}
	}
}

// The same share has the same windows, in lowest terms or not: P4.1 and P4.2.
func TestSharesNotInLowestTerms(t *testing.T) {
	for _, x := range small() {
		for _, by := range []int64{2, 3, 10, 43690} {
			for _, i := range append(numbers(), x.E, x.E+1, x.P) {
				got, e := Of(w(x.E*by, x.P*by), i, 5)
				want, f := Of(x, i, 5)
				if got != want || e != f {
					t.Errorf("%v times %d, %d: %v, %d, want %v, %d", x, by, i, got, e, want, f)
				}
			}
		}
	}
}

// R4: the same calls have the same answers, whatever was asked between.
func TestAsksAgain(t *testing.T) {
	first, _ := Of(w(8, 11), 3, 7)
	each(func(x api.Weight, i int64) { Of(x, i, i) })
	if again, e := Of(w(8, 11), 3, 7); again != first || e != api.OK {
		t.Errorf("Of(8/11, 3, 7): %v, %d, then %v", first, e, again)
	}
}
