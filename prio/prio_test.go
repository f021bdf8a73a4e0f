package prio

import (
	"math"
	"slices"
	"testing"

	"regatta/api"
)

const (
	most  = math.MaxInt64
	least = math.MinInt64
)

func e(id int, deadline int64, bit int, group int64) api.Entry {
	return api.Entry{ID: id, Sub: api.Sub{Deadline: deadline, Bit: bit, Group: group}}
}

// named is an entry with a name of its own, in a field that the order does not know.
func named(name int64, x api.Entry) api.Entry {
	x.Sub.Index = name
	return x
}

// all are entries of all those deadlines, bits, groups and IDs.
func all(deadlines []int64, bits []int, groups []int64, ids []int) []api.Entry {
	var l []api.Entry
	for _, d := range deadlines {
		for _, b := range bits {
			for _, g := range groups {
				for _, id := range ids {
					l = append(l, e(id, d, b, g))
				}
			}
		}
	}
	return l
}

// edges are entries of the least and the greatest numbers, of those by 0, and of numbers that are the same in their low 32 bits.
func edges() []api.Entry {
	return all(
		[]int64{least, -1, 0, 5, 5 + 1<<32, most},
		[]int{least, -1, 0, 1, 2, 1 + 1<<32, most},
		[]int64{least, 0, 9, 9 + 1<<32, most},
		[]int{least, -1, 0, 3, 3 + 1<<32, most},
	)
}

// few are entries of few numbers, of which there may be three at once.
func few() []api.Entry {
	return all([]int64{least, 5, most}, []int{0, 1, 2}, []int64{least, 8, most}, []int{least, 4, most})
}

// long are n entries of few numbers, each with a name, of which many are not told apart.
func long(n int) []api.Entry {
	l := make([]api.Entry, n)
	x := uint64(1)
	part := func(of uint64) int {
		x = x*6364136223846793005 + 1442695040888963407
		return int(x >> 33 % of)
	}
	for i := range l {
		l[i] = named(int64(i), e(part(5), int64(part(4)), part(3), int64(part(3))))
	}
	return l
}

// ahead tells if a goes ahead of b, as the chapter's words have it, one by one.
func ahead(a, b api.Entry) bool {
	same := a.Sub.Deadline == b.Sub.Deadline
	both := a.Sub.Bit == 1 && b.Sub.Bit == 1
	none := a.Sub.Bit != 1 && b.Sub.Bit != 1
	return a.Sub.Deadline < b.Sub.Deadline ||
		same && a.Sub.Bit == 1 && b.Sub.Bit != 1 ||
		same && both && a.Sub.Group > b.Sub.Group ||
		same && both && a.Sub.Group == b.Sub.Group && a.ID < b.ID ||
		same && none && a.ID < b.ID
}

// sorted takes from l, again and again, the first one that none of the rest goes ahead of.
func sorted(l []api.Entry) []api.Entry {
	rest := slices.Clone(l)
	var out []api.Entry
	for len(rest) > 0 {
		at := 0
		for i := range rest {
			if ahead(rest[i], rest[at]) {
				at = i
			}
		}
		out = append(out, rest[at])
		rest = slices.Delete(rest, at, at+1)
	}
	return out
}

// orders calls f with all orders of l.
func orders(l []api.Entry, f func([]api.Entry)) {
	var put func(n int)
	l = slices.Clone(l)
	put = func(n int) {
		if n == len(l) {
			f(l)
			return
		}
		for i := n; i < len(l); i++ {
			l[n], l[i] = l[i], l[n]
			put(n + 1)
			l[n], l[i] = l[i], l[n]
		}
	}
	put(0)
}

func same(t *testing.T, what string, got, want []api.Entry) {
	t.Helper()
	if !slices.Equal(got, want) {
		t.Fatalf("%s: %v, want %v", what, got, want)
	}
}

// first fails if a does not go ahead of b, or b ahead of a.
func first(t *testing.T, what string, a, b api.Entry) {
	t.Helper()
	if !Less(a, b) {
		t.Errorf("%s: %v does not go ahead of %v", what, a, b)
	}
	if Less(b, a) {
		t.Errorf("%s: %v goes ahead of %v", what, b, a)
	}
}

// P6.1: the chapter's example, in all orders and with all orders of IDs.
func TestExample(t *testing.T) {
	orders([]api.Entry{e(1, 0, 0, 0), e(2, 0, 0, 0), e(3, 0, 0, 0), e(4, 0, 0, 0)}, func(ids []api.Entry) {
		a, b := e(ids[0].ID, 5, 0, 0), e(ids[1].ID, 5, 1, 8)
		c, d := e(ids[2].ID, 5, 1, 9), e(ids[3].ID, 4, 0, 0)
		want := []api.Entry{d, c, b, a}
		orders([]api.Entry{a, b, c, d}, func(l []api.Entry) {
			same(t, "Sort", Sort(l), want)
			for i, x := range want {
				same(t, "Pick", Pick(l, i), want[:i])
				if n := Rank(l, x.ID); n != i {
					t.Errorf("Rank(%v, %d): %d, want %d", l, x.ID, n, i)
				}
			}
		})
	})
}

// P6.1: each thing that tells two apart, against all that comes behind it.
func TestLess(t *testing.T) {
	first(t, "deadline", e(9, 4, 0, 0), e(1, 5, 1, 9))
	first(t, "deadline", e(9, -5, 0, 0), e(1, -4, 1, 9))
	first(t, "deadline", e(9, least, 0, 0), e(1, most, 1, most))
	first(t, "deadline", e(9, most-1, 0, 0), e(1, most, 1, most))
	first(t, "bit", e(9, 5, 1, 0), e(1, 5, 0, 9))
	first(t, "bit", e(9, 5, 1, least), e(1, 5, 0, most))
	first(t, "group", e(9, 5, 1, 9), e(1, 5, 1, 8))
	first(t, "group", e(9, 5, 1, 1), e(1, 5, 1, 0))
	first(t, "group", e(9, 5, 1, most), e(1, 5, 1, least))
	first(t, "group", e(9, 5, 1, least+1), e(1, 5, 1, least))
	first(t, "ID of bit 1", e(1, 5, 1, 8), e(9, 5, 1, 8))
	first(t, "ID of bit 0", e(1, 5, 0, 8), e(9, 5, 0, 8))
	first(t, "ID of bit 0, groups differ", e(1, 5, 0, 8), e(9, 5, 0, 9))
	first(t, "ID of bit 0, groups differ", e(1, 5, 0, 9), e(9, 5, 0, 8))
	first(t, "ID of bit 0, groups differ", e(1, 5, 0, least), e(9, 5, 0, most))
	first(t, "ID", e(least, 5, 1, 8), e(most, 5, 1, 8))
	first(t, "ID", e(-1, 5, 0, 8), e(0, 5, 0, 8))
}

// P6.1: any Bit that is not 1 is as 0.
func TestOtherBits(t *testing.T) {
	bits := []int{0, 2, 3, -1, 1 + 1<<32, 1 + 1<<8, most, least}
	for _, b := range bits {
		first(t, "bit 1 and another one", e(9, 5, 1, 0), e(1, 5, b, 9))
		for _, c := range bits {
			first(t, "two other bits", e(1, 5, b, 8), e(9, 5, c, 9))
			first(t, "two other bits", e(1, 5, b, 9), e(9, 5, c, 8))
			if Less(e(1, 5, b, 9), e(1, 5, c, 8)) || Less(e(1, 5, b, 8), e(1, 5, c, 9)) {
				t.Errorf("bits %d and %d tell apart what bit 0 does not", b, c)
			}
		}
	}
}

// P6.1: neither the number of a subtask nor its release counts.
func TestWhatDoesNotCount(t *testing.T) {
	for _, bit := range []int{0, 1} {
		a, b := e(1, 5, bit, 8), e(2, 5, bit, 8)
		for _, n := range []int64{least, -1, 0, 1, most} {
			for _, m := range []int64{least, -1, 0, 1, most} {
				a.Sub.Index, b.Sub.Index, a.Sub.Release, b.Sub.Release = n, m, m, n
				first(t, "other numbers and releases", a, b)
				c := a
				c.Sub.Index, c.Sub.Release = m, n
				if Less(a, c) || Less(c, a) {
					t.Errorf("%v and %v are told apart", a, c)
				}
			}
		}
	}
}

// P6.1: all pairs of edges, against the chapter's words; P6.2: of different IDs just one goes ahead.
func TestPairs(t *testing.T) {
	l := edges()
	for _, a := range l {
		for _, b := range l {
			got := Less(a, b)
			if got != ahead(a, b) {
				t.Fatalf("Less(%v, %v): %v", a, b, got)
			}
			back := Less(b, a)
			if got && back {
				t.Fatalf("%v and %v go ahead of each other", a, b)
			}
			if a.ID != b.ID && !got && !back {
				t.Fatalf("neither of %v and %v goes ahead", a, b)
			}
		}
	}
}

// P6.2: what goes ahead of what goes ahead, goes ahead; and what is not told apart from one goes where that one goes.
func TestTriples(t *testing.T) {
	l := few()
	apart := func(a, b api.Entry) bool { return Less(a, b) || Less(b, a) }
	for _, a := range l {
		if Less(a, a) {
			t.Fatalf("%v goes ahead of itself", a)
		}
		for _, b := range l {
			less, told := Less(a, b), apart(a, b)
			for _, c := range l {
				if less && Less(b, c) && !Less(a, c) {
					t.Fatalf("%v goes ahead of %v, that ahead of %v, but not the first ahead of the last", a, b, c)
				}
				if !told && Less(a, c) != Less(b, c) {
					t.Fatalf("%v and %v are not told apart, but by %v", a, b, c)
				}
			}
		}
	}
}

// P6.1: all orders of entries, some of which nothing tells apart.
func TestSortInAllOrders(t *testing.T) {
	l := []api.Entry{
		named(1, e(4, 5, 0, 7)), named(2, e(4, 5, 0, 9)), named(3, e(4, 5, 2, 0)),
		named(4, e(1, 5, 1, 8)), named(5, e(1, 5, 1, 8)), named(6, e(2, 5, 1, 9)), named(7, e(9, 4, 0, 0)),
	}
	orders(l, func(l []api.Entry) {
		got := Sort(l)
		same(t, "Sort", got, sorted(l))
		same(t, "the first two", got[:2], []api.Entry{named(7, e(9, 4, 0, 0)), named(6, e(2, 5, 1, 9))})
	})
}

// P6.1: what nothing tells apart keeps its order, in lists that are longer than any that a sort does at once.
func TestSortKeepsOrder(t *testing.T) {
	for _, x := range []api.Entry{e(3, 5, 1, 8), e(3, 5, 0, 8), e(least, least, 1, least), e(most, most, 0, most), {}} {
		var l []api.Entry
		for i := range int64(1000) {
			y := named(i, x)
			y.Sub.Release = -i
			if x.Sub.Bit != 1 {
				y.Sub.Group, y.Sub.Bit = i%7, int(i%5)*2
			}
			l = append(l, y)
		}
		same(t, "Sort", Sort(l), l)
		slices.Reverse(l)
		same(t, "Sort", Sort(l), l)
	}
}

// P6.1: lists of many lengths, Pick of each number among them.
func TestLongLists(t *testing.T) {
	for _, n := range []int{2, 3, 11, 12, 13, 20, 21, 40, 64, 100, 257, 2000} {
		l := long(n)
		want := sorted(l)
		same(t, "Sort", Sort(l), want)
		for _, m := range []int{1, 2, n / 2, n - 1, n, n + 1, 2 * n} {
			same(t, "Pick", Pick(l, m), want[:min(m, n)])
		}
	}
	l := edges()
	same(t, "Sort of edges", Sort(l), sorted(l))
	slices.Reverse(l)
	same(t, "Sort of edges", Sort(l), sorted(l))
}

// P6.1: Sort of what is sorted changes nothing.
func TestSortAgain(t *testing.T) {
	l := Sort(long(500))
	same(t, "Sort", Sort(l), l)
}

// P6.1
func TestPick(t *testing.T) {
	l := long(30)
	want := sorted(l)
	for m := 1; m <= 30; m++ {
		same(t, "Pick", Pick(l, m), want[:m])
	}
	for _, m := range []int{31, 32, 1000, 1 << 32, most - 1, most} {
		same(t, "Pick of more", Pick(l, m), want)
	}
	for _, m := range []int{0, -1, -2, -30, -31, -1 << 32, least, least + 1} {
		if got := Pick(l, m); len(got) != 0 {
			t.Errorf("Pick(l, %d): %v, want none", m, got)
		}
	}
}

// P6.1: Rank is how many go ahead; of an ID that is there twice, of the one that stands first in l.
func TestRank(t *testing.T) {
	a, b, c := e(1, 4, 0, 0), e(7, 3, 0, 0), e(7, 5, 0, 0)
	for _, x := range []struct {
		l    []api.Entry
		id   int
		want int
	}{
		{[]api.Entry{a, b, c}, 1, 1},
		{[]api.Entry{a, b, c}, 7, 0},
		{[]api.Entry{a, c, b}, 7, 2},
		{[]api.Entry{c, b, a}, 7, 2},
		{[]api.Entry{b, c, a}, 7, 0},
		{[]api.Entry{c, c, a}, 7, 1},
		{[]api.Entry{c, c, a}, 1, 0},
		{[]api.Entry{b, b, b}, 7, 0},
		{[]api.Entry{a, a, c, a}, 7, 3},
		{[]api.Entry{named(1, c), named(2, c), a}, 7, 1},
		{[]api.Entry{e(7, 5, 0, 9), e(7, 5, 2, 8), e(8, 5, 1, 0)}, 7, 1},
		{[]api.Entry{e(least, 5, 0, 0), e(most, 5, 0, 0)}, most, 1},
		{[]api.Entry{e(least, 5, 0, 0), e(most, 5, 0, 0)}, least, 0},
		{[]api.Entry{a, b, c}, 0, -1},
		{[]api.Entry{a, b, c}, -1, -1},
		{[]api.Entry{a, b, c}, 2, -1},
		{[]api.Entry{a, b, c}, -7, -1},
		{[]api.Entry{a, b, c}, 7 + 1<<32, -1},
		{[]api.Entry{a, b, c}, least, -1},
		{[]api.Entry{a, b, c}, most, -1},
	} {
		if n := Rank(x.l, x.id); n != x.want {
			t.Errorf("Rank(%v, %d): %d, want %d", x.l, x.id, n, x.want)
		}
	}
}

// P6.1: of IDs that are all different, Rank is the place in Sort's list.
func TestRankIsThePlace(t *testing.T) {
	l := long(300)
	for i := range l {
		l[i].ID = i * 7 % 300
	}
	for i, x := range Sort(l) {
		if n := Rank(l, x.ID); n != i {
			t.Errorf("Rank of %d: %d, want %d", x.ID, n, i)
		}
	}
	if n := Rank(l, 300); n != -1 {
		t.Errorf("Rank of none: %d, want -1", n)
	}
}

// P6.1, R1: nothing, and one entry.
func TestNothingAndOne(t *testing.T) {
	numbers := []int{least, -1, 0, 1, 2, most}
	for _, l := range [][]api.Entry{nil, {}, make([]api.Entry, 0, 9)} {
		if got := Sort(l); len(got) != 0 {
			t.Errorf("Sort of nothing: %v", got)
		}
		for _, n := range numbers {
			if got := Pick(l, n); len(got) != 0 {
				t.Errorf("Pick(nothing, %d): %v", n, got)
			}
			if got := Rank(l, n); got != -1 {
				t.Errorf("Rank(nothing, %d): %d, want -1", n, got)
			}
		}
	}
	for _, x := range edges() {
		l := []api.Entry{x}
		same(t, "Sort", Sort(l), l)
		same(t, "Pick", Pick(l, 1), l)
		same(t, "Pick", Pick(l, 2), l)
		same(t, "Pick", Pick(l, 0), nil)
		if n := Rank(l, x.ID); n != 0 {
			t.Errorf("Rank(%v, %d): %d, want 0", l, x.ID, n)
		}
		if n := Rank(l, x.ID^1); n != -1 {
			t.Errorf("Rank(%v, %d): %d, want -1", l, x.ID^1, n)
		}
	}
}

// R3: l stays as it is, and so does what lies behind it; the answer shares nothing with it.
func TestMemory(t *testing.T) {
	mark := e(77, 77, 77, 77)
	for _, n := range []int{1, 2, 5, 30, 300} {
		row := append(long(n), long(n)...)
		was := slices.Clone(row)
		for _, l := range [][]api.Entry{row[:n], row, Sort(row)} {
			kept := slices.Clone(l)
			for _, ask := range []func() []api.Entry{
				func() []api.Entry { return Sort(l) },
				func() []api.Entry { return Pick(l, 1) },
				func() []api.Entry { return Pick(l, n) },
				func() []api.Entry { return Pick(l, len(l)) },
				func() []api.Entry { return Pick(l, len(l)+1) },
			} {
				got, other := ask(), ask()
				same(t, "l", l, kept)
				same(t, "what lies behind l", row, was)
				told := slices.Clone(got)
				for i := range other {
					other[i] = mark
				}
				_ = append(other, mark, mark)
				same(t, "l, when the answer changed", l, kept)
				same(t, "what lies behind l, when the answer changed", row, was)
				same(t, "another answer", got, told)
				for i := range l {
					l[i] = mark
				}
				same(t, "the answer, when l changed", got, told)
				copy(l, kept)
			}
			Rank(l, 3)
			Rank(l, 99)
			same(t, "l behind Rank", l, kept)
			same(t, "what lies behind l", row, was)
		}
	}
}

// R4: the same calls have the same answers, whatever was asked in between.
func TestAsksAgain(t *testing.T) {
	l, other := long(200), edges()
	row, some, rank := Sort(l), Pick(l, 50), Rank(l, 3)
	for range 5 {
		Sort(other)
		Pick(other, 9)
		Rank(other, 3)
		same(t, "Sort", Sort(l), row)
		same(t, "Pick", Pick(l, 50), some)
		if n := Rank(l, 3); n != rank {
			t.Errorf("Rank: %d, want %d", n, rank)
		}
	}
}
