package slot

import (
	"encoding/binary"
	"fmt"
	"math"
	"math/rand"
	"slices"
	"strings"
	"testing"

	"regatta/api"
)

const (
	last  = 1 << 40
	most  = math.MaxInt
	least = math.MinInt
)

func r(id, core int, index int64) api.Run { return api.Run{ID: id, Core: core, Index: index} }

func s(at int64, runs ...api.Run) api.Slot { return api.Slot{At: at, Runs: runs} }

func row(l ...api.Slot) []api.Slot { return l }

func same(t *testing.T, what string, got, want any) {
	t.Helper()
	if got != want {
		t.Fatalf("%s: %v, want %v", what, got, want)
	}
}

// alike tells if two rows are the same; no runs may be nil, or empty.
func alike(a, b []api.Slot) bool {
	return slices.EqualFunc(a, b, func(x, y api.Slot) bool {
		return x.At == y.At && slices.Equal(x.Runs, y.Runs)
	})
}

// clone is a row of memory of its own.
func clone(l []api.Slot) []api.Slot {
	c := slices.Clone(l)
	for i := range c {
		c[i].Runs = slices.Clone(c[i].Runs)
	}
	return c
}

// full is a slot that has a run on each of m cores.
func full(at int64, m int) api.Slot {
	x := s(at)
	for i := range m {
		x.Runs = append(x.Runs, r(1023-i, i, int64(i+1)))
	}
	return x
}

// ahead is n slots without any runs, from slot at on.
func ahead(at int64, n int) []api.Slot {
	l := make([]api.Slot, n)
	for i := range l {
		l[i].At = at + int64(i)
	}
	return l
}

// may tells by the chapter's words if a slot may be, each run held against each.
func may(x api.Slot, m int) bool {
	if m < 1 || m > 1024 || x.At < 0 || x.At > last {
		return false
	}
	for i, a := range x.Runs {
		if a.Core < 0 || a.Core >= m || a.ID < 0 || a.ID > 1023 || a.Index < 1 || a.Index > last {
			return false
		}
		for _, b := range x.Runs[:i] {
			if a.Core <= b.Core || a.ID == b.ID {
				return false
			}
		}
	}
	return true
}

// mays tells by the chapter's words if a row of slots may be.
func mays(l []api.Slot, m int) bool {
	for i, x := range l {
		if !may(x, m) || i > 0 && x.At-l[i-1].At != 1 {
			return false
		}
	}
	return true
}

// plain writes any row by the chapter's words, with the library's numbers of 7 bits a byte.
func plain(l []api.Slot) string {
	n := []int64{int64(len(l)), 0}
	if len(l) > 0 {
		n[1] = l[0].At
	}
	for _, x := range l {
		n = append(n, int64(len(x.Runs)))
		core := 0
		for _, a := range x.Runs {
			n = append(n, int64(a.Core-core), int64(a.ID), a.Index)
			core = a.Core
		}
	}
	return numbers(n...)
}

// numbers writes numbers, one behind the other.
func numbers(l ...int64) string {
	var b []byte
	for _, n := range l {
		b = binary.AppendUvarint(b, uint64(n))
	}
	return string(b)
}

// find tells the row that bytes are written as, if there is one: it reads without any care, and then writes what it read.
func find(text string) ([]api.Slot, bool) {
	b := []byte(text)
	next := func() int64 {
		n, k := binary.Uvarint(b)
		if k < 1 || n > 1<<41 {
			b = nil
			return 1 << 41
		}
		b = b[k:]
		return int64(n)
	}
	n, at := next(), next()
	if n > 4096 {
		return nil, false
	}
	l := ahead(at, int(n))
	for i := range l {
		core := int64(0)
		for k := next(); k > 0 && len(b) > 0; k-- {
			core += next()
			l[i].Runs = append(l[i].Runs, r(int(next()), int(core), next()))
		}
	}
	if !mays(l, 1024) || plain(l) != text {
		return nil, false
	}
	return l, true
}

// read holds Read against find.
func read(t *testing.T, text string) {
	t.Helper()
	l, ok := Read(text)
	want, there := find(text)
	if ok != there || !alike(l, want) {
		t.Fatalf("Read(%x): %v, %v, want %v, %v", text, l, ok, want, there)
	}
	if ok && Bytes(l) != text {
		t.Fatalf("Bytes of what %x is read as: %x", text, Bytes(l))
	}
}

// wrong asks that bytes are not read.
func wrong(t *testing.T, text string) {
	t.Helper()
	if l, ok := Read(text); ok || len(l) != 0 {
		t.Fatalf("Read(%x): %v, %v, want nothing, false", text, l, ok)
	}
}

// right asks that a row that may be is written as the chapter says, and read as it was.
func right(t *testing.T, l []api.Slot) {
	t.Helper()
	text := Bytes(l)
	if text != plain(l) {
		t.Fatalf("Bytes(%v): %x, want %x", l, text, plain(l))
	}
	if got, ok := Read(text); !ok || !alike(got, l) {
		t.Fatalf("Read(%x): %v, %v, want %v, true", text, got, ok, l)
	}
}

// some is a row that may be, of up to n slots and up to m cores, by chance.
func some(d *rand.Rand, n, m int) []api.Slot {
	l := ahead(d.Int63n(last>>d.Intn(40)+1), d.Intn(n+1))
	if len(l) > 0 && d.Intn(4) == 0 {
		l = ahead(last-int64(len(l)-1), len(l))
	}
	for i := range l {
		who := d.Perm(1024)
		for core := d.Intn(m); core < m; core += 1 + d.Intn(m) {
			l[i].Runs = append(l[i].Runs, r(who[core], core, 1+d.Int63n(last>>d.Intn(41))))
		}
	}
	return l
}

// P16.1: Check's bounds of m.
func TestCheckCores(t *testing.T) {
	for _, c := range []struct {
		m    int
		want bool
	}{{least, false}, {-1, false}, {0, false}, {1, true}, {2, true}, {1023, true}, {1024, true}, {1025, false}, {most, false}} {
		same(t, fmt.Sprint("Check, no run, of ", c.m), Check(s(0), c.m), c.want)
		same(t, fmt.Sprint("Check, a run, of ", c.m), Check(s(0, r(0, 0, 1)), c.m), c.want)
		same(t, fmt.Sprint("Row of ", c.m), Row(row(s(0)), c.m), c.want)
	}
}

// P16.1: Check's bounds of At, with and without runs.
func TestCheckAt(t *testing.T) {
	for _, c := range []struct {
		at   int64
		want bool
	}{{math.MinInt64, false}, {-last, false}, {-1, false}, {0, true}, {1, true}, {last - 1, true}, {last, true}, {last + 1, false}, {math.MaxInt64, false}} {
		same(t, fmt.Sprint("Check at ", c.at), Check(s(c.at), 1), c.want)
		same(t, fmt.Sprint("Check, a run, at ", c.at), Check(s(c.at, r(3, 0, 5)), 1024), c.want)
		same(t, fmt.Sprint("Row at ", c.at), Row(row(s(c.at)), 7), c.want)
		same(t, fmt.Sprint("Bytes at ", c.at), Bytes(row(s(c.at))) != "", c.want)
	}
}

// P16.1: Check's bounds of a run's numbers, at each place of a slot.
func TestCheckRun(t *testing.T) {
	for _, c := range []struct {
		run  api.Run
		want bool
	}{
		{r(least, 1, 1), false}, {r(-1, 1, 1), false}, {r(0, 1, 1), true}, {r(1023, 1, 1), true}, {r(1024, 1, 1), false}, {r(most, 1, 1), false},
		{r(5, 1, math.MinInt64), false}, {r(5, 1, -1), false}, {r(5, 1, 0), false}, {r(5, 1, 2), true}, {r(5, 1, last), true}, {r(5, 1, last+1), false}, {r(5, 1, math.MaxInt64), false},
		{r(5, least, 1), false}, {r(5, -1, 1), false}, {r(5, most, 1), false}, {r(5, 3, 1), false},
	} {
		what := fmt.Sprint("Check of ", c.run)
		same(t, what, Check(s(9, c.run), 3), c.want)
		same(t, what+" first", Check(s(9, c.run, r(7, 2, 1)), 3), c.want)
		same(t, what+" last", Check(s(9, r(6, 0, 1), c.run), 3), c.want)
		same(t, what+" between", Check(s(9, r(6, 0, 1), c.run, r(7, 2, 1)), 3), c.want)
		same(t, what+" in a row", Row(row(s(8), s(9, r(6, 0, 1), c.run, r(7, 2, 1)), s(10)), 3), c.want)
	}
}

// P16.1: Check of cores that rise, or do not, and of those that there are not.
func TestCheckRise(t *testing.T) {
	for m := 1; m <= 1024; m++ {
		x := full(0, m)
		same(t, fmt.Sprint("Check of all of ", m), Check(x, m), true)
		same(t, fmt.Sprint("Check of one too many, of ", m), Check(x, m-1), false)
		same(t, fmt.Sprint("Check of the last core of ", m), Check(s(0, r(0, m-1, 1)), m), true)
		same(t, fmt.Sprint("Check of the core behind the last one of ", m), Check(s(0, r(0, m, 1)), m), false)
	}
	same(t, "Check of one more than all of 1024", Check(s(0, append(full(0, 1024).Runs, r(0, 1024, 1))...), 1024), false)
	same(t, "Check of the same core", Check(s(0, r(0, 1, 1), r(1, 1, 1)), 4), false)
	same(t, "Check of a core below", Check(s(0, r(0, 2, 1), r(1, 1, 1)), 4), false)
	same(t, "Check of a core below, last", Check(s(0, r(0, 1, 1), r(1, 2, 1), r(2, 0, 1)), 4), false)
	same(t, "Check of cores apart", Check(s(0, r(5, 1, 1), r(1, 3, 1)), 4), true)
}

// P16.1: Check of two of the same ID, at any two places of a slot.
func TestCheckTwice(t *testing.T) {
	for _, m := range []int{2, 3, 7, 40, 1024} {
		places := m
		if m > 40 {
			places = 12
		}
		for i := range places {
			for j := range i {
				x := full(3, m)
				x.Runs[m-1-j].ID = x.Runs[m-1-i].ID
				same(t, fmt.Sprint("Check, twice the same ID, of ", m, i, j), Check(x, m), false)
				x = full(3, m)
				x.Runs[j].ID = x.Runs[m-1-i].ID
				same(t, fmt.Sprint("Check, twice or as it was, of ", m, i, j), Check(x, m), j == m-1-i)
			}
		}
	}
	// The same ID in two slots is no fault, nor is the same Index of two.
	same(t, "Row, the same ID in two slots", Row(row(s(1, r(4, 0, 1), r(5, 1, 1)), s(2, r(5, 0, 1), r(4, 1, 1))), 2), true)
}

// P16.1: Check of all slots of up to two runs of few numbers, and many of three, against the chapter's words.
func TestCheckAll(t *testing.T) {
	var runs []api.Run
	for _, id := range []int{-1, 0, 1, 1023, 1024} {
		for core := -1; core <= 3; core++ {
			for _, index := range []int64{0, 1, last, last + 1} {
				runs = append(runs, r(id, core, index))
			}
		}
	}
	try := func(x api.Slot) {
		for m := -1; m <= 4; m++ {
			if Check(x, m) != may(x, m) {
				t.Fatalf("Check(%v, %d): %v, want %v", x, m, Check(x, m), may(x, m))
			}
		}
	}
	for _, a := range runs {
		try(s(1, a))
		for _, b := range runs {
			try(s(1, a, b))
		}
	}
	for id := range 27 {
		for core := range 64 {
			try(s(1, r(id/9, core/16, 1), r(id/3%3, core/4%4, 1), r(id%3, core%4, 1)))
		}
	}
}

// P16.1: Row of slots that follow one another, or do not.
func TestRow(t *testing.T) {
	for _, m := range []int{1, 4, 1024} {
		same(t, "Row of none", Row(nil, m) && Row([]api.Slot{}, m), true)
		same(t, "Row of one", Row(row(s(5)), m), true)
		same(t, "Row of the same", Row(row(s(5), s(5)), m), false)
		same(t, "Row of one more", Row(row(s(5), s(6)), m), true)
		same(t, "Row of two more", Row(row(s(5), s(7)), m), false)
		same(t, "Row of one less", Row(row(s(5), s(4)), m), false)
		same(t, "Row that goes on", Row(ahead(7, 9), m), true)
		same(t, "Row up to the end", Row(ahead(last-8, 9), m), true)
		same(t, "Row beyond the end", Row(ahead(last-7, 9), m), false)
		same(t, "Row from below 0", Row(ahead(-1, 9), m), false)
		same(t, "Row round 64 bits", Row(row(s(math.MaxInt64), s(math.MinInt64)), m), false)
		for i := range 9 {
			for _, by := range []int64{-1, 1, last} {
				l := ahead(7, 9)
				l[i].At += by
				same(t, fmt.Sprint("Row with slot ", i, " elsewhere by ", by), Row(l, m), false)
			}
			l := ahead(7, 9)
			l[i].Runs = []api.Run{r(0, m-1, 1)}
			same(t, fmt.Sprint("Row with a run in slot ", i), Row(l, m), true)
			l[i].Runs = []api.Run{r(0, m, 1)}
			same(t, fmt.Sprint("Row with a wrong run in slot ", i), Row(l, m), false)
		}
	}
	// No slot of none may not be, of however many cores.
	for _, m := range []int{least, 0, 1025, most} {
		same(t, "Row of none", Row(nil, m), true)
		same(t, "Row of one", Row(ahead(0, 1), m), false)
	}
}

// P16.1: Row of rows by chance, as they are and with one number turned, against the chapter's words.
func TestRowChance(t *testing.T) {
	d := rand.New(rand.NewSource(1))
	no := 0
	for range 20000 {
		m := 1 + d.Intn(6)
		l := some(d, 5, m)
		if len(l) > 0 && d.Intn(2) == 0 {
			x := &l[d.Intn(len(l))]
			if n := len(x.Runs); n > 0 && d.Intn(4) > 0 {
				a := &x.Runs[d.Intn(n)]
				switch d.Intn(3) {
				case 0:
					a.ID = x.Runs[d.Intn(n)].ID
				case 1:
					a.Core += d.Intn(3) - 1
				default:
					a.Index = []int64{0, 1, last, last + 1}[d.Intn(4)]
				}
			} else {
				x.At += int64(d.Intn(3) - 1)
			}
		}
		of := m + d.Intn(3) - 1
		same(t, fmt.Sprint("Row of ", l, of), Row(l, of), mays(l, of))
		if !mays(l, of) {
			no++
		}
	}
	if no < 3000 || no > 17000 {
		t.Fatalf("%d rows may not be", no)
	}
}

// cores is the cores of all runs of an ID, in order.
func cores(l []api.Slot, id int) []int {
	var c []int
	for _, x := range l {
		for _, a := range x.Runs {
			if a.ID == id {
				c = append(c, a.Core)
			}
		}
	}
	return c
}

// told holds Quanta and Moves against the runs of an ID, held against the one ahead of each.
func told(t *testing.T, l []api.Slot, id int) {
	t.Helper()
	c := cores(l, id)
	moves := 0
	for i := 1; i < len(c); i++ {
		if c[i] != c[i-1] {
			moves++
		}
	}
	if q, n := Quanta(l, id), Moves(l, id); q != int64(len(c)) || n != moves {
		t.Fatalf("Quanta and Moves of %d in %v: %d, %d, want %d, %d", id, l, q, n, len(c), moves)
	}
}

// P16.1: Quanta and Moves of an ID that runs nowhere, once, on one core, on others, back and forth, and at all IDs.
func TestQuantaMoves(t *testing.T) {
	on := func(cores ...int) []api.Slot {
		l := ahead(3, len(cores))
		for i, c := range cores {
			if c >= 0 {
				l[i].Runs = []api.Run{r(7, c, int64(i+1)), r(9, c+1, 1)}
			}
		}
		return l
	}
	for _, c := range []struct {
		l             []api.Slot
		quanta, moves int
	}{
		{nil, 0, 0}, {on(-1), 0, 0}, {on(-1, -1), 0, 0},
		{on(0), 1, 0}, {on(5), 1, 0}, {on(-1, 5, -1), 1, 0},
		{on(5, 5), 2, 0}, {on(5, -1, -1, 5, 5), 3, 0},
		{on(5, 6), 2, 1}, {on(6, 5), 2, 1}, {on(5, -1, 6), 2, 1}, {on(0, 1), 2, 1}, {on(1, 0), 2, 1},
		{on(5, 6, 7, 8), 4, 3}, {on(5, 6, 5, 6), 4, 3}, {on(0, 1, -1, 0, 0, 1), 5, 3}, {on(5, 5, 6, 6, 5, 5), 6, 2},
	} {
		what := fmt.Sprint(c.l)
		same(t, "Quanta in "+what, Quanta(c.l, 7), int64(c.quanta))
		same(t, "Moves in "+what, Moves(c.l, 7), c.moves)
		for _, id := range []int{least, -1, 0, 6, 8, 1023, 1024, most} {
			same(t, "Quanta of another in "+what, Quanta(c.l, id), int64(0))
			same(t, "Moves of another in "+what, Moves(c.l, id), 0)
		}
	}
	for _, id := range []int{0, 1, 1022, 1023} {
		l := row(s(0, r(id, 0, 1)), s(1, r(id, 1, 2)))
		same(t, "Quanta", Quanta(l, id), int64(2))
		same(t, "Moves", Moves(l, id), 1)
	}
}

// P16.1: Quanta and Moves of rows that may not be: of any IDs and cores, of two of an ID in a slot, of slots that do not follow one another.
func TestQuantaMovesWrong(t *testing.T) {
	l := row(s(9, r(-1, 5, 0), r(2000, 3, 1), r(-1, 5, 0)), s(9, r(-1, -7, 1)), s(-4, r(most, most, 1), r(-1, 2000, 1)), s(1, r(2000, 3, 2)), s(1, r(least, least, 0), r(least, 0, 0)))
	for _, c := range []struct{ id, quanta, moves int }{{-1, 4, 2}, {2000, 2, 0}, {most, 1, 0}, {least, 2, 1}, {0, 0, 0}} {
		same(t, fmt.Sprint("Quanta of ", c.id), Quanta(l, c.id), int64(c.quanta))
		same(t, fmt.Sprint("Moves of ", c.id), Moves(l, c.id), c.moves)
	}
	twice := row(s(1, r(4, 0, 1), r(4, 1, 1), r(4, 0, 1)))
	same(t, "Quanta of thrice in a slot", Quanta(twice, 4), int64(3))
	same(t, "Moves of thrice in a slot", Moves(twice, 4), 2)
	// -1 is a core as any other here, and the first run has none ahead of it.
	same(t, "Moves from core -1", Moves(row(s(0, r(1, -1, 1)), s(1, r(1, -1, 2)), s(2, r(1, 0, 3))), 1), 1)
}

// P16.1: Quanta and Moves of all rows of up to three slots of few runs, and of rows by chance.
func TestQuantaMovesAll(t *testing.T) {
	slots := row(s(0), s(0, r(1, 0, 1)), s(0, r(1, 1, 1)), s(0, r(2, 0, 1)), s(0, r(2, 1, 1)), s(0, r(1, 0, 1), r(2, 1, 1)), s(0, r(2, 0, 1), r(1, 1, 1)), s(0, r(1, 0, 1), r(1, 2, 1)), s(0, r(1, 3, 1), r(1, 3, 2)))
	for _, a := range slots {
		for _, b := range slots {
			for _, c := range slots {
				for id := range 4 {
					told(t, row(a, b, c), id)
				}
			}
		}
	}
	d := rand.New(rand.NewSource(2))
	for range 300 {
		l := some(d, 60, 5)
		for i := range l {
			for j := range l[i].Runs {
				l[i].Runs[j].ID = d.Intn(4)
			}
		}
		for id := range 5 {
			told(t, l, id)
		}
	}
}

// empty counts, core by core, how many have no run; 0, if they may not be.
func empty(l []api.Slot, m int) int64 {
	n := int64(0)
	if !mays(l, m) {
		return 0
	}
	for _, x := range l {
		for core := range m {
			if !slices.ContainsFunc(x.Runs, func(a api.Run) bool { return a.Core == core }) {
				n++
			}
		}
	}
	return n
}

// P16.1: Empty of rows that may be, of those that may not, of fewer cores than a run's and of more.
func TestEmpty(t *testing.T) {
	l := row(s(5, r(3, 0, 1), r(4, 2, 1)), s(6), s(7, r(3, 1, 2)))
	for _, c := range []struct {
		m    int
		want int64
	}{{least, 0}, {-1, 0}, {0, 0}, {1, 0}, {2, 0}, {3, 6}, {4, 9}, {1024, 3069}, {1025, 0}, {most, 0}} {
		same(t, fmt.Sprint("Empty of ", c.m), Empty(l, c.m), c.want)
	}
	for _, m := range []int{least, -1, 0, 1, 2, 1024, 1025, most} {
		same(t, "Empty of no row", Empty(nil, m), int64(0))
	}
	for _, m := range []int{1, 2, 7, 1024} {
		same(t, "Empty of a slot without runs", Empty(ahead(0, 1), m), int64(m))
		same(t, "Empty of three slots without runs", Empty(ahead(last-2, 3), m), int64(3*m))
		same(t, "Empty of full slots", Empty(row(full(8, m), full(9, m)), m), int64(0))
		same(t, "Empty of one that is not full", Empty(row(full(8, m), s(9)), m), int64(m))
		same(t, "Empty of slots that do not follow", Empty(row(s(8), s(10)), m), int64(0))
		same(t, "Empty of a slot that may not be", Empty(row(s(8), s(9, r(1024, 0, 1))), m), int64(0))
		same(t, "Empty beyond the end", Empty(ahead(last-1, 3), m), int64(0))
	}
	same(t, "Empty of many", Empty(ahead(0, 100000), 1024), int64(102400000))
}

// P16.1: Empty of rows by chance, against all cores gone over one by one.
func TestEmptyChance(t *testing.T) {
	d := rand.New(rand.NewSource(3))
	for range 5000 {
		m := 1 + d.Intn(8)
		l := some(d, 6, m)
		for of := m - 2; of <= m+2; of++ {
			same(t, fmt.Sprint("Empty of ", l, of), Empty(l, of), empty(l, of))
		}
	}
}

// P16.2: the chapter's examples, and the bytes of a longer row, written by hand.
func TestExamples(t *testing.T) {
	for _, c := range []struct {
		l     []api.Slot
		bytes string
	}{
		{nil, "\x00\x00"},
		{row(s(5, r(3, 1, 2))), "\x01\x05\x01\x01\x03\x02"},
		{row(s(0)), "\x01\x00\x00"},
		{row(s(0), s(1)), "\x02\x00\x00\x00"},
		{row(s(0, r(0, 0, 1))), "\x01\x00\x01\x00\x00\x01"},
		{row(s(200, r(4, 0, 1), r(2, 3, 300), r(1023, 1023, last)), s(201), s(202, r(2, 1, 301))),
			"\x03\xc8\x01" + "\x03\x00\x04\x01\x03\x02\xac\x02\xfc\x07\xff\x07\x80\x80\x80\x80\x80\x20" + "\x00" + "\x01\x01\x02\xad\x02"},
		{row(s(last, r(128, 127, 16384))), "\x01\x80\x80\x80\x80\x80\x20\x01\x7f\x80\x01\x80\x80\x01"},
	} {
		same(t, fmt.Sprint("Bytes of ", c.l), fmt.Sprintf("%x", Bytes(c.l)), fmt.Sprintf("%x", c.bytes))
		l, ok := Read(c.bytes)
		if !ok || !alike(l, c.l) {
			t.Fatalf("Read(%x): %v, %v, want %v", c.bytes, l, ok, c.l)
		}
	}
	same(t, "Bytes of an empty row", Bytes([]api.Slot{}), "\x00\x00")
	same(t, "Bytes of no runs, that are not nil", Bytes(row(s(3, []api.Run{}...))), "\x01\x03\x00")
}

// P16.2: numbers at the edges of their bytes, at each place where they can stand.
func TestNumbers(t *testing.T) {
	edges := []int64{0, 1, 126, 127, 128, 129, 255, 256, 1022, 1023, 1024, 16383, 16384, 16385, 1<<21 - 1, 1 << 21, 1<<28 - 1, 1 << 28, 1<<31 - 1, 1 << 31, 1<<32 - 1, 1 << 32, 1<<35 - 1, 1 << 35, last - 1, last}
	for _, n := range edges {
		right(t, row(s(n)))
		if n > 0 {
			right(t, row(s(n, r(9, 9, n))))
			right(t, row(s(last-1, r(9, 0, 1), r(8, 1, n)), s(last, r(1, 1, n))))
		}
		if n < 1024 {
			k := int(n)
			right(t, row(s(3, r(k, 5, 1))))
			right(t, row(s(3, r(k, k, n+1))))
			right(t, row(full(2, k)))
			if n > 0 {
				right(t, row(s(3, r(1, 0, 1), r(2, k, 1))))
				right(t, row(s(3, r(1, 1023-k, 1), r(2, 1023, 1))))
			}
		}
		if n <= 4096 {
			right(t, ahead(77, int(n)))
		}
	}
	right(t, row(full(last-1, 1024), full(last, 1024)))
	for n := range int64(20000) {
		right(t, row(s(n, r(int(n%1024), int(n*7%1024), n+1))))
	}
}

// P16.2: Bytes of rows that may not be is nothing, whatever is wrong; of those that may be of fewer cores alone it is not.
func TestBytesWrong(t *testing.T) {
	ok := row(s(4, r(1, 0, 1)), s(5, r(1, 1, 2), r(2, 2, 1)))
	same(t, "Bytes of a row that may be of 3 cores", Bytes(ok), plain(ok))
	same(t, "that row, of 2", Row(ok, 2), false)
	for i, l := range [][]api.Slot{
		row(s(-1)), row(s(last + 1)), row(s(math.MinInt64)), row(s(math.MaxInt64)),
		ahead(last, 2), ahead(last-5, 7), row(s(4), s(4)), row(s(4), s(6)), row(s(5), s(4)), row(s(4), s(5), s(7)),
		row(s(4, r(-1, 0, 1))), row(s(4, r(1024, 0, 1))), row(s(4, r(1, -1, 1))), row(s(4, r(1, 1024, 1))), row(s(4, r(1, 0, 0))), row(s(4, r(1, 0, last+1))), row(s(4, r(1, 0, -1))),
		row(s(4, r(1, 0, 1), r(1, 1, 1))), row(s(4, r(1, 1, 1), r(2, 1, 1))), row(s(4, r(1, 1, 1), r(2, 0, 1))),
		row(s(4), s(5), s(6, r(1, 3, 1), r(2, 4, 1), r(1, 5, 1))),
		row(s(4, append(full(4, 1024).Runs, r(0, 1024, 1))...)),
	} {
		same(t, fmt.Sprint("Bytes of wrong row ", i), Bytes(l), "")
	}
}

// P16.2, P16.3: Read takes up to 4096 slots, and no more, though Bytes writes them.
func TestReadLong(t *testing.T) {
	for _, n := range []int{4095, 4096} {
		right(t, ahead(0, n))
		right(t, ahead(last-int64(n-1), n))
	}
	for _, n := range []int{4097, 4098, 8192, 16384, 100000} {
		text := Bytes(ahead(3, n))
		same(t, "Bytes of many slots", text, plain(ahead(3, n)))
		wrong(t, text)
	}
	l := ahead(3, 4097)
	for i := range l {
		l[i].Runs = []api.Run{r(1, 2, 3)}
	}
	right(t, l[:4096])
	right(t, l[1:])
	wrong(t, Bytes(l))
	// As many slots as are said, and ones more behind them.
	wrong(t, Bytes(l[:4096])+"\x01\x02\x01\x03")
	wrong(t, numbers(4097, 3)+strings.Repeat("\x00", 4096))
	wrong(t, numbers(4096, 3)+strings.Repeat("\x00", 4095))
	wrong(t, numbers(4096, 3)+strings.Repeat("\x00", 4097))
	wrong(t, numbers(1<<31, 0)+strings.Repeat("\x00", 1000))
	wrong(t, numbers(last, 0)+"\x00")
}

// P16.2: Read of bytes that are no row's.
func TestReadWrong(t *testing.T) {
	big := numbers(math.MaxInt64)
	for _, text := range []string{
		"", "\x00", "\x01", "\x80", "\xff", "\x01\x05", "\x02\x05\x00", "\x00\x00\x00",
		// None has no slot to begin at.
		"\x00\x01", "\x00\x80\x80\x80\x80\x80\x20",
		// They end within a number.
		"\x80", "\x01\x80", "\x01\x05\x81", "\x01\x05\x01\x81", "\x01\x05\x01\x01\x83", "\x01\x05\x01\x01\x03\x82", "\x01\xff\xff\xff\xff\xff",
		// A last byte of 0.
		"\x80\x00\x00", "\x00\x80\x00", "\x81\x00\x05\x01\x01\x03\x02", "\x01\x85\x00\x01\x01\x03\x02", "\x01\x05\x81\x00\x01\x03\x02", "\x01\x05\x01\x81\x00\x03\x02", "\x01\x05\x01\x01\x83\x00\x02", "\x01\x05\x01\x01\x03\x82\x00", "\x01\x05\x80\x00", "\x01\x05\x01\x01\x03\x82\x80\x00", "\x01\x80\x80\x80\x80\x80\x00\x00", "\x01\x80\x80\x80\x80\x80\xa0\x00\x00",
		// Too great: one more than may be, and far more.
		numbers(1, last+1, 0), numbers(1, 5, 1025), numbers(1, 5, 1, 1024, 3, 2), numbers(1, 5, 1, 1, 1024, 2), numbers(1, 5, 1, 1, 3, last+1),
		numbers(1) + big + numbers(0), numbers(1, 5) + big, numbers(1, 5, 1) + big + numbers(3, 2), numbers(1, 5, 1, 1) + big + numbers(2), numbers(1, 5, 1, 1, 3) + big, big, big + big,
		numbers(-1, 5), numbers(1, -1, 0), numbers(1, 5, 1, -1, 3, 2), numbers(1, 5, 1, 1, -1, 2), numbers(1, 5, 1, 1, 3, -1), numbers(1, 5, -1, 1, 3, 2),
		// Numbers of more than 64 bits, whose lowest ones are good.
		"\x01" + "\x85\x80\x80\x80\x80\x80\x80\x80\x80\x80\x01" + "\x00", "\x81\x80\x80\x80\x80\x80\x80\x80\x80\x02\x05\x00", "\x01\x05\x81\x80\x80\x80\x80\x80\x80\x80\x80\x80\x80\x04\x01\x03\x02", "\x01" + strings.Repeat("\x80", 12) + "\x01\x00", strings.Repeat("\x80", 5000) + "\x01", strings.Repeat("\x80", 5000), strings.Repeat("\xff", 5000),
		// An Index of 0, the same core, one above the last core, the same ID.
		"\x01\x05\x01\x01\x03\x00", "\x01\x05\x02\x01\x03\x02\x00\x04\x02", numbers(1, 5, 2, 1000, 3, 2, 24, 4, 2), "\x01\x05\x02\x01\x03\x02\x01\x03\x02", numbers(1, 5, 2, 1023, 3, 2, 1023, 4, 2),
		// The last slot is above 2^40.
		numbers(2, last, 0, 0), numbers(4, last-2, 0, 0, 0, 0),
		// More runs than there are, and fewer.
		"\x01\x05\x02\x01\x03\x02", "\x01\x05\x02\x01\x03\x02\x01", "\x01\x05\x02\x01\x03\x02\x01\x04", numbers(1, 5, 1024, 1, 3, 2), numbers(4096, 5, 1024), "\x01\x05\x00\x01\x03\x02",
		// A byte more.
		"\x01\x05\x01\x01\x03\x02\x00", "\x01\x05\x01\x01\x03\x02\x01", "\x01\x05\x00\x00", "\x00\x00\x80",
	} {
		wrong(t, text)
		read(t, text)
	}
	wrong(t, Bytes(row(full(1, 1024)))+"\x00")
	all := full(1, 1024)
	wrong(t, numbers(1, 1, 1025)+plain(row(all))[4:]+numbers(1, 0, 1))
}

// P16.2: all texts of up to two bytes, of three and up to seven of few bytes, against the row that they are written as.
func TestReadAll(t *testing.T) {
	for n := range 1 << 16 {
		read(t, string([]byte{byte(n)}))
		read(t, string([]byte{byte(n >> 8), byte(n)}))
		read(t, string([]byte{1, byte(n >> 8), byte(n)}))
		read(t, string([]byte{1, 5, byte(n >> 8), byte(n)}))
		read(t, string([]byte{1, 5, 1, 1, byte(n >> 8), byte(n)}))
		read(t, string([]byte{1, 5, 1, byte(n >> 8), byte(n), 1}))
	}
	few := []byte{0, 1, 2, 0x7f, 0x80, 0x81, 0xff}
	b := make([]byte, 0, 7)
	var on func()
	on = func() {
		read(t, string(b))
		if len(b) == cap(b) {
			return
		}
		for _, x := range few {
			b = append(b, x)
			on()
			b = b[:len(b)-1]
		}
	}
	on()
}

// P16.2: each byte of rows turned into each other one, left out, or put in: what is read is written so.
func TestReadTurned(t *testing.T) {
	d := rand.New(rand.NewSource(4))
	rows := [][]api.Slot{nil, row(s(5, r(3, 1, 2))), row(s(200, r(4, 0, 1), r(2, 3, 300), r(1023, 1023, last)), s(201), s(202, r(2, 1, 301))), row(s(last-1, r(1, 1, last)), s(last, r(2, 1023, last))), row(s(0, r(0, 0, 1), r(1, 1, 128)), s(1))}
	for range 20 {
		rows = append(rows, some(d, 3, 4))
	}
	for _, l := range rows {
		right(t, l)
		text := plain(l)
		for i := range len(text) {
			wrong(t, text[:i])
			read(t, text[:i]+text[i+1:])
			for x := range 256 {
				c := string([]byte{byte(x)})
				read(t, text[:i]+c+text[i+1:])
				read(t, text[:i]+c+text[i:])
			}
		}
		for x := range 256 {
			wrong(t, text+string([]byte{byte(x)}))
		}
	}
}

// P16.3: rows by chance are read as they were written.
func TestReadChance(t *testing.T) {
	d := rand.New(rand.NewSource(5))
	for range 3000 {
		right(t, some(d, 12, 1+d.Intn(20)))
	}
	for range 60 {
		right(t, some(d, 12, 1024))
	}
	for range 20 {
		l := some(d, 4096, 3)
		right(t, l)
		wrong(t, Bytes(l)+"\x00")
	}
}

// P16.2, P16.3: any bytes that are read are those that their row is written as.
func TestReadBytes(t *testing.T) {
	d := rand.New(rand.NewSource(6))
	there := 0
	for range 300000 {
		var text string
		switch d.Intn(3) {
		case 0:
			b := make([]byte, d.Intn(12))
			for i := range b {
				b[i] = byte(d.Intn(256) >> d.Intn(8))
			}
			text = string(b)
		case 1:
			l := []int64{int64(d.Intn(3)), d.Int63n(4)}
			for range d.Intn(9) {
				l = append(l, int64(d.Intn(3)))
			}
			text = numbers(l...)
		default:
			b := []byte(plain(some(d, 3, 4)))
			for range d.Intn(3) {
				b[d.Intn(len(b))] ^= 1 << d.Intn(8)
			}
			text = string(b)
		}
		read(t, text)
		if _, ok := Read(text); ok {
			there++
		}
	}
	if there < 30000 {
		t.Fatalf("%d texts of 300000 are rows", there)
	}
}

// R3, R4: what is handed in stays as it is, what is told is the caller's own, and the same calls tell the same.
func TestMemory(t *testing.T) {
	l := row(s(200, r(4, 0, 1), r(2, 3, 300)), s(201), s(202, r(2, 1, 301)), s(77, r(9, 9, 9)))
	was := clone(l)
	short := l[:3]
	text := Bytes(short)
	for range 3 {
		same(t, "Check", Check(short[0], 4), true)
		same(t, "Row", Row(short, 4), true)
		same(t, "Quanta", Quanta(short, 2), int64(2))
		same(t, "Moves", Moves(short, 2), 1)
		same(t, "Empty", Empty(short, 4), int64(9))
		same(t, "Bytes", Bytes(short), text)
		wrong(t, text+"\x00")
	}
	if !alike(l, was) {
		t.Fatalf("handed in: %v behind the calls", l)
	}
	first, _ := Read(text)
	second, _ := Read(text)
	for i := range first {
		// What is put behind the runs of a slot does not reach another slot's, nor those of another answer.
		first[i].Runs = append(first[i].Runs, r(8, 8, 8))
	}
	if len(first[1].Runs) != 1 || first[2].Runs[0] != r(2, 1, 301) || first[0].Runs[1] != r(2, 3, 300) {
		t.Fatalf("told: %v, with a run more in each slot", first)
	}
	for i := range first {
		clear(first[i].Runs)
		first[i].At = -1
	}
	_ = append(first, s(1))
	if !alike(second, was[:3]) {
		t.Fatalf("Read: %v, when another answer was changed", second)
	}
	clear(l)
	same(t, "Bytes told", text, plain(was[:3]))
	if third, ok := Read(text); !ok || !alike(third, was[:3]) || !alike(second, third) {
		t.Fatalf("Read: %v, %v, when what was handed in was changed", third, ok)
	}
}
