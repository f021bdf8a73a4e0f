package place

import (
	"fmt"
	"math"
	"math/rand"
	"slices"
	"testing"

	"regatta/api"
)

const (
	most  = math.MaxInt
	least = math.MinInt
)

func r(id, pin, last int) api.Runner { return api.Runner{ID: id, Pin: pin, Last: last} }

func row(l ...api.Runner) []api.Runner { return l }

func same(t *testing.T, what string, got, want any) {
	t.Helper()
	if got != want {
		t.Fatalf("%s: %v, want %v", what, got, want)
	}
}

// free is n runners that have neither a Pin nor a Last.
func free(n int) []api.Runner {
	l := make([]api.Runner, n)
	for i := range l {
		l[i] = r(i, none, none)
	}
	return l
}

// with is l, with another runner at place i.
func with(l []api.Runner, i int, x api.Runner) []api.Runner {
	l = slices.Clone(l)
	l[i] = x
	return l
}

// may tells by the chapter's words if runners may be, each held against each.
func may(l []api.Runner, m int) bool {
	if m < 1 || m > 1024 || len(l) > m {
		return false
	}
	for i, a := range l {
		if a.Pin < -1 || a.Pin >= m || a.Last < -1 || a.Last >= m {
			return false
		}
		for _, b := range l[:i] {
			if a.ID == b.ID || a.Pin == b.Pin && a.Pin != -1 {
				return false
			}
		}
	}
	return true
}

// hold tells by the chapter's words if cores hold runners.
func hold(l []api.Runner, cores []int, m int) bool {
	if !may(l, m) || len(cores) != len(l) {
		return false
	}
	for i, c := range cores {
		if c < 0 || c >= m || slices.Contains(cores[:i], c) || l[i].Pin != -1 && l[i].Pin != c {
			return false
		}
	}
	return true
}

// moving is how many runners move, of those that have a core.
func moving(l []api.Runner, cores []int) int {
	n := 0
	for i := range l {
		if i < len(cores) && l[i].Last != -1 && cores[i] != l[i].Last {
			n++
		}
	}
	return n
}

// put is runners' cores by the chapter's words, of runners that may be.
func put(l []api.Runner, m int) []int {
	cores := make([]int, len(l))
	isOn := map[int]bool{}
	for i, x := range l {
		cores[i] = x.Pin
		if x.Pin != -1 {
			isOn[x.Pin] = true
		}
	}
	for i, x := range l {
		if x.Pin == -1 && x.Last != -1 && !isOn[x.Last] {
			cores[i] = x.Last
			isOn[x.Last] = true
		}
	}
	for i := range l {
		for c := 0; c < m && cores[i] == -1; c++ {
			if !isOn[c] {
				cores[i] = c
				isOn[c] = true
			}
		}
	}
	return cores
}

// fewest is how many move at least, of all cores that hold the runners, gone over one by one.
func fewest(l []api.Runner, m int) int {
	n := len(l) + 1
	cores := make([]int, len(l))
	var from func(i int)
	from = func(i int) {
		if i == len(l) {
			if hold(l, cores, m) {
				n = min(n, moving(l, cores))
			}
			return
		}
		for c := range m {
			cores[i] = c
			from(i + 1)
		}
	}
	from(0)
	return n
}

// alike holds all calls against the chapter's words.
func alike(t *testing.T, l []api.Runner, m int) {
	t.Helper()
	ok := Check(l, m)
	if ok != may(l, m) {
		t.Fatalf("Check(%v, %d): %v", l, m, ok)
	}
	cores, e := Assign(l, m)
	if !ok {
		if len(cores) != 0 || e != api.ErrArg || Least(l, m) != 0 || Holds(l, make([]int, len(l)), m) {
			t.Fatalf("of %v, which may not be on %d: Assign: %v, %d, Least: %d", l, m, cores, e, Least(l, m))
		}
		return
	}
	if want := put(l, m); !slices.Equal(cores, want) || e != api.OK {
		t.Fatalf("Assign(%v, %d): %v, %d, want %v", l, m, cores, e, want)
	}
	if n, k := Least(l, m), Moves(l, cores); n != moving(l, cores) || k != n {
		t.Fatalf("Least(%v, %d): %d, Moves: %d, want %d", l, m, n, k, moving(l, cores))
	}
	if !Holds(l, cores, m) {
		t.Fatalf("Holds(%v, %v, %d): false", l, cores, m)
	}
}

// mayNot are rows that may not be, each with its number of cores.
func mayNot() []struct {
	l []api.Runner
	m int
} {
	type both = struct {
		l []api.Runner
		m int
	}
	var all []both
	for _, m := range []int{0, -1, -2, -1024, -1025, 1025, 1026, 2048, 1 << 32, 1<<32 + 1, 1<<32 + 4, most, most - 1, least, least + 1} {
		all = append(all, both{nil, m}, both{free(0), m}, both{free(1), m}, both{row(r(1, 0, 0)), m}, both{row(r(1, -1, 1024)), m}, both{free(5), m})
	}
	for _, m := range []int{1, 2, 3, 4, 7, 1023, 1024} {
		all = append(all, both{free(m + 1), m}, both{free(m + 2), m}, both{free(2*m + 100), m})
	}
	all = append(all, both{free(1 << 20), 1024}, both{make([]api.Runner, 1<<20), 1}, both{free(1 << 20), 1 << 20})
	for _, m := range []int{1, 2, 4, 1024} {
		for i := range min(m, 4) {
			for _, c := range []int{-2, -3, m, m + 1, -1024, 1 << 32, 1<<32 - 1, -1 << 32, -1<<32 - 1, most, least, least + 1} {
				l := free(min(m, 4))
				all = append(all, both{with(l, i, r(9, c, -1)), m}, both{with(l, i, r(9, -1, c)), m}, both{with(l, i, r(9, 0, c)), m}, both{with(l, i, r(9, c, 0)), m}, both{with(l, i, r(9, c, c)), m})
			}
		}
	}
	for i := range 4 {
		for j := range i {
			for _, id := range []int{0, 1, -1, 1 << 32, most, least} {
				l := with(with(row(r(50, -1, -1), r(51, -1, -1), r(52, -1, -1), r(53, -1, -1)), j, r(id, 0, 1)), i, r(id, 2, 3))
				all = append(all, both{l, 4}, both{l, 5}, both{l, 1024})
			}
			for c := range 4 {
				all = append(all, both{with(with(free(4), j, r(8, c, -1)), i, r(9, c, -1)), 4}, both{with(with(free(4), j, r(8, c, 0)), i, r(9, c, 3)), 1024})
			}
		}
	}
	return all
}

// P15.1: which numbers of cores and of runners may be.
func TestCheckSizes(t *testing.T) {
	for _, m := range []int{1, 2, 3, 4, 100, 1023, 1024} {
		for _, n := range []int{0, 1, 2, m - 1, m, m + 1, m + 2, 3 * m} {
			same(t, fmt.Sprint("Check of ", n, " on ", m), Check(free(n), m), n <= m)
		}
		same(t, fmt.Sprint("Check of nil on ", m), Check(nil, m), true)
	}
	for _, m := range []int{0, -1, -2, -1024, 1025, 1026, 1 << 20, 1<<32 + 1, most, least, least + 1} {
		same(t, fmt.Sprint("Check of nil on ", m), Check(nil, m), false)
		same(t, fmt.Sprint("Check of one on ", m), Check(free(1), m), false)
	}
}

// P15.1: which IDs, Pins and Lasts may be; a Pin is not given twice, but for -1, while a Last may be.
func TestCheckRunners(t *testing.T) {
	for _, m := range []int{1, 2, 4, 1024} {
		for _, c := range []int{least, least + 1, -1025, -1024, -3, -2, -1, 0, m - 1, m, m + 1, 1025, 1 << 20, 1<<32 - 1, 1 << 32, most - 1, most} {
			want := c >= -1 && c < m
			same(t, fmt.Sprint("Check of Pin ", c, " on ", m), Check(row(r(1, c, -1)), m), want)
			same(t, fmt.Sprint("Check of Last ", c, " on ", m), Check(row(r(1, -1, c)), m), want)
			same(t, fmt.Sprint("Check of both ", c, " on ", m), Check(row(r(1, c, c)), m), want)
		}
		for _, id := range []int{least, least + 1, -2, -1, 0, 1, m, 1023, 1024, 1 << 40, most} {
			same(t, fmt.Sprint("Check of ID ", id), Check(row(r(id, 0, 0)), m), true)
		}
	}
	for _, x := range []struct {
		l    []api.Runner
		want bool
	}{
		{row(r(1, -1, -1), r(2, -1, -1)), true},
		{row(r(1, -1, -1), r(1, -1, -1)), false},
		{row(r(1, 0, -1), r(1, 1, -1)), false},
		{row(r(1, -1, 0), r(1, -1, 1)), false},
		{row(r(-1, -1, 0), r(-1, -1, 1)), false},
		{row(r(1, 0, -1), r(2, 0, -1)), false},
		{row(r(1, 3, -1), r(2, 3, -1)), false},
		{row(r(1, 3, 0), r(2, 3, 1)), false},
		{row(r(1, 3, -1), r(2, -1, -1), r(3, 3, -1)), false},
		{row(r(1, 3, -1), r(2, 2, -1)), true},
		{row(r(1, 3, -1), r(2, -1, 3)), true},
		{row(r(1, -1, 3), r(2, -1, 3), r(3, -1, 3), r(4, -1, 3)), true},
		{row(r(1, 0, 3), r(2, 1, 3), r(3, 2, 3), r(4, 3, 3)), true},
		{row(r(1, 0, 1), r(2, 1, 0)), true},
		{row(r(1, 0, 1), r(2, 1, 0), r(3, 0, 1)), false},
	} {
		same(t, fmt.Sprint("Check ", x.l), Check(x.l, 4), x.want)
	}
}

// P15.1, P15.2: of runners that may not be, all that is told is no, nothing with ErrArg, or 0.
func TestWrong(t *testing.T) {
	for _, x := range mayNot() {
		what := fmt.Sprint("of ", len(x.l), " on ", x.m, ": ", x.l[:min(len(x.l), 5)])
		if may(x.l[:min(len(x.l), 2000)], x.m) {
			t.Fatalf("%s: these may be", what)
		}
		same(t, "Check "+what, Check(x.l, x.m), false)
		cores, e := Assign(x.l, x.m)
		same(t, "Assign "+what, fmt.Sprint(len(cores), " ", int(e)), "0 1")
		same(t, "Least "+what, Least(x.l, x.m), 0)
		own := make([]int, len(x.l))
		for i := range own {
			own[i] = i
		}
		for _, cores := range [][]int{nil, {}, {0}, make([]int, len(x.l)), own} {
			same(t, "Holds "+what, Holds(x.l, cores, x.m), false)
		}
	}
	// They would move, if they could be: it is not from Moves of nothing alone that Least is 0.
	l := row(r(1, 0, 1), r(2, 1, 0), r(1, -1, 0))
	same(t, "Moves", Moves(l, []int{0, 1, 2}), 3)
	same(t, "Least", Least(l, 3), 0)
	same(t, "Least of two", Least(l[:2], 3), 2)
	same(t, "Least of two on one core", Least(l[:2], 1), 0)
}

// P15.1: which cores hold runners.
func TestHolds(t *testing.T) {
	l := row(r(1, -1, 0), r(2, -1, 0), r(3, 3, 3), r(4, -1, 3))
	for _, x := range []struct {
		l     []api.Runner
		cores []int
		m     int
		want  bool
	}{
		{l, []int{0, 1, 3, 2}, 4, true},
		{l, []int{0, 1, 3, 2}, 5, true},
		{l, []int{0, 1, 3, 2}, 1024, true},
		{l, []int{2, 0, 3, 1}, 4, true},
		{l, []int{1023, 1022, 3, 1021}, 1024, true},
		{l, []int{4, 1, 3, 2}, 5, true},
		// Too few, none, too many.
		{l, []int{0, 1, 3}, 4, false},
		{l, []int{0, 1}, 4, false},
		{l, []int{}, 4, false},
		{l, nil, 4, false},
		{l, []int{0, 1, 3, 2, 4}, 5, false},
		{l, []int{0, 1, 3, 2, -1}, 4, false},
		{l, []int{0, 1, 3, 2, 0}, 4, false},
		{l, make([]int, 1<<20), 4, false},
		// Below 0, of m and above it.
		{l, []int{-1, 1, 3, 2}, 4, false},
		{l, []int{0, -1, 3, 2}, 4, false},
		{l, []int{0, 1, 3, -1}, 4, false},
		{l, []int{0, 1, -1, 2}, 4, false},
		{l, []int{-2, 1, 3, 2}, 4, false},
		{l, []int{least, 1, 3, 2}, 4, false},
		{l, []int{0, 1, 3, 4}, 4, false},
		{l, []int{5, 1, 3, 2}, 5, false},
		{l, []int{1024, 1, 3, 2}, 1024, false},
		{l, []int{1023, 1, 3, 2}, 1023, false},
		{l, []int{1 << 32, 1, 3, 2}, 4, false},
		{l, []int{most, 1, 3, 2}, 4, false},
		// Twice the same.
		{l, []int{0, 0, 3, 2}, 4, false},
		{l, []int{0, 2, 3, 2}, 4, false},
		{l, []int{2, 1, 3, 2}, 4, false},
		{l, []int{3, 1, 3, 2}, 4, false},
		{l, []int{0, 1, 3, 3}, 4, false},
		// Who has a Pin is on another core.
		{l, []int{0, 1, 2, 3}, 4, false},
		{l, []int{3, 1, 0, 2}, 4, false},
		{l, []int{0, 1, 4, 2}, 5, false},
		{row(r(1, 0, -1)), []int{1}, 2, false},
		{row(r(1, 1, -1)), []int{0}, 2, false},
		{row(r(1, 1, 0)), []int{0}, 2, false},
		{row(r(1, 1, 0)), []int{1}, 2, true},
		{row(r(1, 0, 1), r(2, 1, 0)), []int{1, 0}, 2, false},
		{row(r(1, 0, 1), r(2, 1, 0)), []int{0, 1}, 2, true},
		// None, one, of few cores.
		{nil, nil, 1, true},
		{nil, []int{}, 1, true},
		{row(), nil, 1024, true},
		{nil, []int{0}, 1, false},
		{nil, []int{-1}, 1, false},
		{nil, nil, 0, false},
		{nil, nil, -1, false},
		{nil, nil, 1025, false},
		{free(1), []int{0}, 1, true},
		{free(1), []int{1}, 1, false},
		{free(1), []int{-1}, 1, false},
		{free(1), []int{0}, 0, false},
		{free(1), []int{1024}, 1025, false},
		{free(1), []int{1023}, 1024, true},
		{free(1), []int{1024}, 1024, false},
		// Runners that may not be, whose cores would hold them else.
		{free(2), []int{0, 1}, 1, false},
		{row(r(1, -1, -1), r(1, -1, -1)), []int{0, 1}, 2, false},
		{row(r(1, -1, 2), r(2, -1, -1)), []int{0, 1}, 2, false},
		{row(r(1, -1, -2), r(2, -1, -1)), []int{0, 1}, 2, false},
		{row(r(1, -2, -1)), []int{0}, 2, false},
		{row(r(1, -2, -1)), []int{-2}, 2, false},
		{row(r(1, 2, -1)), []int{2}, 2, false},
		{row(r(1, 0, -1), r(2, 0, -1)), []int{0, 0}, 2, false},
	} {
		same(t, fmt.Sprint("Holds ", x.l, " ", x.cores[:min(len(x.cores), 9)], " ", x.m), Holds(x.l, x.cores, x.m), x.want)
		if got := hold(x.l, x.cores, x.m); got != x.want {
			t.Fatalf("the words themselves say %v of %v on %v of %d", got, x.l, x.cores, x.m)
		}
	}
}

// P15.1: how many move, of those that have a core, whether the runners may be or not.
func TestMoves(t *testing.T) {
	l := row(r(1, -1, 0), r(2, -1, 0), r(3, 3, 3), r(4, -1, 3), r(5, -1, -1))
	for _, x := range []struct {
		l     []api.Runner
		cores []int
		want  int
	}{
		{l, []int{0, 1, 3, 2, 4}, 2},
		{l, []int{0, 0, 3, 3, 9}, 0},
		{l, []int{1, 1, 1, 1, 1}, 4},
		{l, []int{-1, -1, -1, -1, -1}, 4},
		// Fewer cores than runners, and more.
		{l, []int{0, 1, 3, 2}, 2},
		{l, []int{0, 1, 3}, 1},
		{l, []int{0, 1}, 1},
		{l, []int{0}, 0},
		{l, []int{1}, 1},
		{l, []int{}, 0},
		{l, nil, 0},
		{l, []int{0, 1, 3, 2, 4, 5, 6, 7}, 2},
		{l, make([]int, 1<<20), 2},
		{l[:1], []int{0, 1, 2}, 0},
		{l[:1], []int{1, 0, 0}, 1},
		{nil, []int{0, 1}, 0},
		{nil, nil, 0},
		{row(), []int{}, 0},
		// Who has no Last does not move, wherever it is.
		{free(3), []int{0, 1, 2}, 0},
		{free(3), []int{-1, 1 << 40, least}, 0},
		{row(r(1, 2, -1)), []int{2}, 0},
		{row(r(1, 2, -1)), []int{5}, 0},
		// A Pin has no part in it.
		{row(r(1, 2, 2)), []int{2}, 0},
		{row(r(1, 2, 1)), []int{2}, 1},
		{row(r(1, 2, 1)), []int{1}, 0},
		{row(r(1, 0, 1), r(2, 1, 0)), []int{0, 1}, 2},
		// Runners that may not be.
		{row(r(1, -1, 0), r(1, -1, 0)), []int{1, 2}, 2},
		{row(r(1, -1, 0), r(1, -1, 0)), []int{0, 0}, 0},
		{row(r(1, -1, -2)), []int{0}, 1},
		{row(r(1, -1, -2)), []int{-2}, 0},
		{row(r(1, -1, least)), []int{most}, 1},
		{row(r(1, -1, least)), []int{least}, 0},
		{row(r(1, -1, most)), []int{most}, 0},
		{row(r(1, -1, most)), []int{-1}, 1},
		{row(r(1, -1, 1<<32)), []int{0}, 1},
		{row(r(1, -7, 5), r(2, -7, 6), r(3, 5000, 7)), []int{5, 5, 5}, 2},
	} {
		same(t, fmt.Sprint("Moves ", x.l, " ", x.cores[:min(len(x.cores), 9)]), Moves(x.l, x.cores), x.want)
	}
	many := make([]api.Runner, 1<<16)
	for i := range many {
		many[i] = r(0, -2, i%3-1)
	}
	same(t, "Moves of many", Moves(many, make([]int, 1<<15)), (1<<15)/3)
}

// P15.2: the chapter's example, and each of its words by itself.
func TestAssign(t *testing.T) {
	for _, x := range []struct {
		l    []api.Runner
		m    int
		want []int
		move int
	}{
		{row(r(1, -1, 2), r(2, 2, -1), r(3, -1, -1)), 3, []int{0, 2, 1}, 1},
		{row(r(1, -1, 0), r(2, -1, 0), r(3, 3, 3), r(4, -1, 3)), 4, []int{0, 1, 3, 2}, 2},
		// None, one, as many as there are cores.
		{nil, 1, []int{}, 0},
		{row(), 1024, []int{}, 0},
		{free(1), 1, []int{0}, 0},
		{free(1), 1024, []int{0}, 0},
		{free(3), 3, []int{0, 1, 2}, 0},
		{free(3), 9, []int{0, 1, 2}, 0},
		{row(r(1, -1, 0)), 1, []int{0}, 0},
		{row(r(1, 0, 0)), 1, []int{0}, 0},
		{row(r(1, 0, -1)), 1, []int{0}, 0},
		{row(r(1, -1, 1023)), 1024, []int{1023}, 0},
		{row(r(1, 1023, -1)), 1024, []int{1023}, 0},
		// Who has a Pin and a Last is on the Pin, and leaves its Last to others.
		{row(r(1, 2, 2)), 3, []int{2}, 0},
		{row(r(1, 2, 1)), 3, []int{2}, 1},
		{row(r(1, 2, 0), r(2, -1, -1)), 3, []int{2, 0}, 1},
		{row(r(1, 2, 0), r(2, -1, 0)), 3, []int{2, 0}, 1},
		{row(r(1, -1, 0), r(2, 2, 0)), 3, []int{0, 2}, 1},
		{row(r(1, 0, 1), r(2, 1, 0)), 2, []int{0, 1}, 2},
		{row(r(1, 1, 0), r(2, 0, 1), r(3, -1, -1)), 3, []int{1, 0, 2}, 2},
		{row(r(1, 2, -1), r(2, 1, -1), r(3, 0, -1)), 3, []int{2, 1, 0}, 0},
		// A Pin on another's last core, ahead of it in the row, and behind it.
		{row(r(1, 0, -1), r(2, -1, 0)), 2, []int{0, 1}, 1},
		{row(r(1, -1, 0), r(2, 0, -1)), 2, []int{1, 0}, 1},
		{row(r(1, -1, 0), r(2, -1, 0), r(3, 0, -1)), 3, []int{1, 2, 0}, 2},
		{row(r(1, -1, 2), r(2, -1, 1), r(3, 2, 1)), 3, []int{0, 1, 2}, 2},
		// Of two of one last core the one ahead is on it, whatever their IDs are.
		{row(r(1, -1, 0), r(2, -1, 0)), 2, []int{0, 1}, 1},
		{row(r(2, -1, 0), r(1, -1, 0)), 2, []int{0, 1}, 1},
		{row(r(9, -1, 1), r(-9, -1, 1), r(0, -1, 1)), 3, []int{1, 0, 2}, 2},
		{row(r(1, -1, -1), r(2, -1, 1), r(3, -1, 1), r(4, -1, 0)), 4, []int{2, 1, 3, 0}, 1},
		// Who can be on its last core is, behind one that is left over, and behind one that can too.
		{row(r(1, -1, -1), r(2, -1, 0)), 2, []int{1, 0}, 0},
		{row(r(1, -1, 1), r(2, -1, 0)), 2, []int{1, 0}, 0},
		{row(r(1, -1, 2), r(2, -1, 0), r(3, -1, 1)), 3, []int{2, 0, 1}, 0},
		{row(r(1, -1, 3), r(2, 3, -1), r(3, -1, 0), r(4, -1, -1)), 4, []int{1, 3, 0, 2}, 1},
		// Who is left over does not take what another behind it ran on, and is on the least core that is free, in order.
		{row(r(1, -1, 0), r(2, -1, 0), r(3, -1, 1)), 3, []int{0, 2, 1}, 1},
		{row(r(5, -1, -1), r(4, -1, 0), r(3, -1, -1), r(2, -1, 2), r(1, -1, -1)), 6, []int{1, 0, 3, 2, 4}, 0},
		{row(r(1, -1, -1), r(2, 1, -1), r(3, -1, -1), r(4, 0, -1), r(5, -1, -1)), 6, []int{2, 1, 3, 0, 4}, 0},
		{row(r(3, -1, -1), r(2, -1, -1), r(1, -1, -1)), 5, []int{0, 1, 2}, 0},
		{row(r(1, -1, 4), r(2, 4, 4), r(3, -1, 4)), 5, []int{0, 4, 1}, 2},
	} {
		what := fmt.Sprint("of ", x.l, " on ", x.m)
		cores, e := Assign(x.l, x.m)
		if !slices.Equal(cores, x.want) || e != api.OK {
			t.Errorf("Assign %s: %v, %d, want %v", what, cores, e, x.want)
		}
		same(t, "Least "+what, Least(x.l, x.m), x.move)
		same(t, "Moves "+what, Moves(x.l, x.want), x.move)
		same(t, "Holds "+what, Holds(x.l, x.want, x.m), true)
		alike(t, x.l, x.m)
	}
}

// P15.2: as many as there can be at most.
func TestAssignAll(t *testing.T) {
	const m = api.MaxCores
	turned, pinned, crowd := free(m), free(m), free(m)
	for i := range m {
		turned[i] = r(i, -1, m-1-i)
		pinned[i] = r(i, (i+1)%m, i)
		crowd[i] = r(i, -1, 7)
	}
	for _, x := range []struct {
		what string
		l    []api.Runner
		core func(i int) int
		move int
	}{
		{"free", free(m), func(i int) int { return i }, 0},
		{"turned", turned, func(i int) int { return m - 1 - i }, 0},
		{"pinned", pinned, func(i int) int { return (i + 1) % m }, m},
		{"crowd", crowd, func(i int) int { return [...]int{7, 0, 1, 2, 3, 4, 5, 6, 8}[min(i, 8)] + max(i-8, 0) }, m - 1},
	} {
		cores, e := Assign(x.l, m)
		same(t, x.what, fmt.Sprint(len(cores), " ", int(e)), "1024 0")
		for i, c := range cores {
			same(t, fmt.Sprint(x.what, " ", i), c, x.core(i))
		}
		same(t, "Least "+x.what, Least(x.l, m), x.move)
		same(t, "Holds "+x.what, Holds(x.l, cores, m), true)
		alike(t, x.l, m)
		alike(t, x.l[:m-1], m)
		alike(t, x.l, m-1)
		alike(t, append(slices.Clone(x.l), r(m, -1, -1)), m)
	}
}

// P15.1, P15.2: all rows of up to three runners on up to three cores, wrong numbers among them.
func TestRows(t *testing.T) {
	for m := range 4 {
		var single []api.Runner
		for pin := -2; pin <= m; pin++ {
			for last := -2; last <= m; last++ {
				single = append(single, r(0, pin, last))
			}
		}
		rows := [][]api.Runner{nil}
		for n := range 4 {
			for _, l := range rows {
				alike(t, l, m)
			}
			if n == 3 {
				break
			}
			var longer [][]api.Runner
			for _, l := range rows {
				for _, x := range single {
					x.ID = 3 - n
					longer = append(longer, append(slices.Clone(l), x))
				}
			}
			rows = longer
		}
	}
}

// P15.1: all cores of all rows of up to two runners on up to three cores.
func TestRowsOfCores(t *testing.T) {
	said := map[bool]int{}
	for m := 1; m < 4; m++ {
		for k := range 16 * 16 * 25 {
			l := row(r(1, k%4-1, k/4%4-1), r(2, k/16%4-1, k/64%4-1))
			cores := []int{k/256%5 - 1, k/256/5 - 1}
			for n := range 3 {
				for held := range 3 {
					ok := Holds(l[:n], cores[:held], m)
					said[ok]++
					if ok != hold(l[:n], cores[:held], m) {
						t.Fatalf("Holds(%v, %v, %d): %v", l[:n], cores[:held], m, ok)
					}
					if got := Moves(l[:n], cores[:held]); got != moving(l[:n], cores[:held]) {
						t.Fatalf("Moves(%v, %v): %d", l[:n], cores[:held], got)
					}
				}
			}
		}
	}
	if said[true] < 1000 || said[false] < 1000 {
		t.Errorf("Holds told %v alone", said)
	}
}

// some is up to m runners that may be, by chance.
func some(x *rand.Rand, m int) []api.Runner {
	l := make([]api.Runner, x.Intn(m+1))
	ids, pins, far := x.Perm(3*m), x.Perm(m), 1+x.Intn(m)
	for i := range l {
		l[i] = r(ids[i]-m, -1, x.Intn(far+1)-1)
		if x.Intn(3) == 0 {
			l[i].Pin = pins[i]
		}
	}
	return l
}

// P15.3: no cores that hold them have fewer moves, of all of them gone over one by one; P15.2 of them too.
func TestFewest(t *testing.T) {
	x := rand.New(rand.NewSource(15))
	moved := map[int]int{}
	for range 20000 {
		m := 1 + x.Intn(5)
		l := some(x, m)
		alike(t, l, m)
		n := Least(l, m)
		moved[n]++
		if want := fewest(l, m); n != want {
			t.Fatalf("Least(%v, %d): %d, but %d would do", l, m, n, want)
		}
	}
	for n := range 4 {
		if moved[n] < 100 {
			t.Errorf("just %d rows of %d moves", moved[n], n)
		}
	}
}

// P15.2, P15.3: many cores; who has a Last moves just if its own Pin is on another core, another's Pin is on its Last, or one ahead of it stays there.
func TestMany(t *testing.T) {
	x := rand.New(rand.NewSource(16))
	for k := range 600 {
		m := 1 + x.Intn(64)
		if k%20 == 0 {
			m = 900 + x.Intn(125)
		}
		l := some(x, m)
		alike(t, l, m)
		stay, last := 0, map[int]bool{}
		pinned := map[int]bool{}
		for _, a := range l {
			pinned[a.Pin] = a.Pin != -1
		}
		for _, a := range l {
			if a.Last == -1 || a.Pin == a.Last {
				stay++
			} else if a.Pin == -1 && !pinned[a.Last] && !last[a.Last] {
				last[a.Last] = true
				stay++
			}
		}
		same(t, fmt.Sprint("Least of ", l, " on ", m), Least(l, m), len(l)-stay)
	}
}

// R3, R4: what is handed in stays as it is, what is told is the caller's own, and the same calls have the same answers.
func TestMemory(t *testing.T) {
	l := row(r(1, -1, 0), r(2, -1, 0), r(3, 3, 3), r(4, -1, 3), r(5, -1, 9))
	was := slices.Clone(l)
	short := l[:4:5]
	first, _ := Assign(short, 4)
	second, _ := Assign(short, 4)
	want := []int{0, 1, 3, 2}
	for i := range first {
		first[i] = 77
	}
	if !slices.Equal(second, want) {
		t.Fatalf("Assign: %v, when another answer was changed", second)
	}
	_ = append(second, 5)
	cores := []int{0, 1, 3, 2, 9}
	held := cores[:4:5]
	for range 3 {
		same(t, "Check", Check(short, 4), true)
		same(t, "Holds", Holds(short, held, 4), true)
		same(t, "Moves", Moves(short, held), 2)
		same(t, "Least", Least(short, 4), 2)
		third, e := Assign(short, 4)
		if !slices.Equal(third, want) || e != api.OK {
			t.Fatalf("Assign: %v, %d", third, e)
		}
		clear(third)
	}
	if !slices.Equal(l, was) || !slices.Equal(cores, []int{0, 1, 3, 2, 9}) {
		t.Fatalf("handed in: %v, %v behind the calls", l, cores)
	}
	// What was told stays as it is when what was handed in is changed.
	clear(l)
	if !slices.Equal(second, want) {
		t.Fatalf("Assign: %v, when the runners were changed", second)
	}
	wrong := row(r(1, 0, 0), r(1, 1, 1))
	for range 3 {
		_, e := Assign(wrong, 2)
		same(t, "Assign", e, api.ErrArg)
	}
	same(t, "Assign behind a wrong one", fmt.Sprint(Assign(was[:4], 4)), "[0 1 3 2] regatta: error 0")
}
