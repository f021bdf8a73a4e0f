package super

import (
	"fmt"
	"math"
	"math/big"
	"math/rand"
	"slices"
	"testing"

	"regatta/api"
	"regatta/ratio"
	"regatta/window"
)

const (
	top   = api.MaxP
	end   = api.Horizon
	most  = math.MaxInt64
	least = math.MinInt64
)

func p(e, p int64) api.Part { return api.Part{E: e, P: p} }

func w(e, p int64) api.Weight { return api.Weight{E: e, P: p} }

func parts(l ...api.Part) []api.Part { return l }

func times(n int, x api.Part) []api.Part { return slices.Repeat([]api.Part{x}, n) }

func same(t *testing.T, what string, got, want any) {
	t.Helper()
	if got != want {
		t.Fatalf("%s: %v, want %v", what, got, want)
	}
}

func equal(a, b api.Ratio) bool { return slices.Equal(a.Num, b.Num) && slices.Equal(a.Den, b.Den) }

// toRat is how much a is.
func toRat(a api.Ratio) *big.Rat {
	number := func(a []uint32) *big.Int {
		n := new(big.Int)
		for _, limb := range slices.Backward(a) {
			n.Lsh(n, 32).Add(n, big.NewInt(int64(limb)))
		}
		return n
	}
	return new(big.Rat).SetFrac(number(a.Num), number(a.Den))
}

// mayBe are lists of parts that may be: one, some, eight; of small and great ones; of 1, below and above it.
func mayBe() [][]api.Part {
	return [][]api.Part{
		parts(p(1, 1)), parts(p(1, 2)), parts(p(2, 4)), parts(p(5, 5)), parts(p(1, top)), parts(p(top-1, top)), parts(p(top, top)), parts(p(1, top-1)), parts(p(top-1, top-1)),
		parts(p(1, 4), p(1, 6)), parts(p(1, 3), p(2, 5)), parts(p(1, 2), p(1, 2)), parts(p(1, 1), p(1, 1)), parts(p(1, top), p(1, 3)), parts(p(1, 2), p(1, 3), p(1, 6)),
		parts(p(1, 2), p(1, 3), p(1, 7), p(1, 42)), times(7, p(1, 7)), times(8, p(1, 8)), times(8, p(1, 9)), times(8, p(1, 1)), times(8, p(top, top)),
		parts(p(1, 17), p(1, 19), p(1, 23), p(1, 29), p(1, 31), p(1, 37), p(1, 41), p(1, 43)), parts(p(1, 3), p(1, 6), p(1, 12), p(1, 24), p(1, 48), p(1, 96), p(1, 192), p(1, 192)),
	}
}

// wrong are single parts that may not be.
func wrong() []api.Part {
	return []api.Part{
		{}, p(0, 1), p(0, 7), p(0, top), p(-1, 1), p(-1, 7), p(-1, top), p(1, 0), p(0, -1), p(1, -1), p(-1, -1), p(-7, -3), p(-3, -7),
		p(2, 1), p(8, 7), p(top, top-1), p(top+1, top), p(1, top+1), p(top, top+1), p(top+1, top+1), p(1<<32+1, 2), p(1, 1<<32+2), p(1<<32, 1<<32),
		p(most, most), p(1, most), p(most, 1), p(least, least), p(1, least), p(least, 1), p(most, least), p(least, most), p(0, least), p(0, most), p(most, 0), p(least, 0),
	}
}

// mayNot are lists that may not be: of none, of too many, and with one that may not be, at each place.
func mayNot() [][]api.Part {
	l := [][]api.Part{nil, {}, times(9, p(1, 9)), times(9, p(1, top)), times(10, p(1, 20)), times(1000, p(1, 1000)), make([]api.Part, 1<<20), times(1<<16+1, p(1, 1)), append(times(8, p(1, 8)), p(0, 0))}
	for _, good := range mayBe() {
		for i := range good {
			for _, bad := range wrong() {
				l = append(l, slices.Clone(good))
				l[len(l)-1][i] = bad
			}
		}
	}
	return l
}

// P14.1: which parts may be.
func TestCheck(t *testing.T) {
	for _, l := range mayBe() {
		same(t, fmt.Sprint("Check ", l), Check(l), true)
	}
	for _, l := range mayNot() {
		if Check(l) {
			t.Fatalf("Check %v: true", l)
		}
	}
	for n := range 12 {
		same(t, fmt.Sprint("Check of ", n), Check(times(n, p(1, 12))), n >= 1 && n <= 8)
	}
}

// P14.1: of parts that may not be, what they use is 0 by 1, and their weight ErrArg, ahead of all other errors.
func TestWrongParts(t *testing.T) {
	zero := api.Ratio{Den: []uint32{1}}
	for _, l := range mayNot() {
		if got := Use(l); !equal(got, zero) {
			t.Fatalf("Use %v: %v", l, got)
		}
		if got, e := Weight(l); got != w(0, 0) || e != api.ErrArg {
			t.Fatalf("Weight %v: %v, %d", l, got, e)
		}
		if New(l, 0) != nil {
			t.Fatalf("New %v: a supertask", l)
		}
	}
}

// P14.1: what parts use, as the least ratio, whatever their sum is.
func TestUse(t *testing.T) {
	for _, c := range []struct {
		l        []api.Part
		num, den []uint32
	}{
		{parts(p(1, 4), p(1, 6)), []uint32{5}, []uint32{12}},
		{parts(p(1, 3), p(2, 5)), []uint32{11}, []uint32{15}},
		{parts(p(1, 2)), []uint32{1}, []uint32{2}},
		{parts(p(2, 4)), []uint32{1}, []uint32{2}},
		{parts(p(top/2, top)), []uint32{1}, []uint32{2}},
		{parts(p(1, 1)), []uint32{1}, []uint32{1}},
		{parts(p(6, 6)), []uint32{1}, []uint32{1}},
		{parts(p(1, 2), p(1, 3), p(1, 6)), []uint32{1}, []uint32{1}},
		{parts(p(1, 2), p(1, 2), p(1, 2)), []uint32{3}, []uint32{2}},
		{parts(p(2, 3), p(2, 5)), []uint32{16}, []uint32{15}},
		{times(8, p(1, 1)), []uint32{8}, []uint32{1}},
		{times(8, p(top-1, top)), []uint32{1048575}, []uint32{131072}},
		{times(8, p(1, 16)), []uint32{1}, []uint32{2}},
		{parts(p(1, top)), []uint32{1}, []uint32{1048576}},
		{parts(p(1, top), p(1, top-1)), []uint32{2097151}, []uint32{4293918720, 255}},
	} {
		if got := Use(c.l); !slices.Equal(got.Num, c.num) || !slices.Equal(got.Den, c.den) {
			t.Errorf("Use %v: %v, want %v by %v", c.l, got, c.num, c.den)
		}
	}
	// Primes, whose product is far above 64 bits.
	l := parts(p(1, 1048573), p(2, 1048571), p(3, 1048559), p(4, 1048549), p(5, 1048517), p(6, 1048507), p(7, 1048447), p(8, 1048433))
	for _, l := range append(mayBe(), l) {
		if got, want := toRat(Use(l)), sum(l); got.Cmp(want) != 0 || !equal(Use(l), ratio.Least(Use(l))) {
			t.Errorf("Use %v: %v, want %v", l, got, want)
		}
	}
}

// sum is what parts use, by plain fractions.
func sum(l []api.Part) *big.Rat {
	all := new(big.Rat)
	for _, x := range l {
		all.Add(all, big.NewRat(x.E, x.P))
	}
	return all
}

// plainWeight is Weight by the chapter's words, of parts that may be: the least common period is the least one that all divide.
func plainWeight(l []api.Part) (api.Weight, api.Errno) {
	period, shortest := big.NewInt(1), int64(most)
	for _, x := range l {
		y := big.NewInt(x.P)
		period.Div(new(big.Int).Mul(period, y), new(big.Int).GCD(nil, nil, period, y))
		shortest = min(shortest, x.P)
	}
	one, used := big.NewRat(1, 1), sum(l)
	switch {
	case period.Cmp(big.NewInt(top)) > 0:
		return w(0, 0), api.ErrOver
	case used.Cmp(one) > 0:
		return w(0, 0), api.ErrQuota
	}
	used.Add(used, big.NewRat(1, shortest))
	if used.Cmp(one) > 0 {
		used = one
	}
	used.Mul(used, new(big.Rat).SetInt(period))
	if !used.IsInt() {
		panic("no whole number of quanta")
	}
	return w(used.Num().Int64(), period.Int64()), api.OK
}

// P14.1: the chapter's example, what the shares are around 1, periods around MaxP, and which error goes first.
func TestWeight(t *testing.T) {
	for _, c := range []struct {
		l    []api.Part
		want api.Weight
		e    api.Errno
	}{
		{parts(p(1, 4), p(1, 6)), w(8, 12), api.OK},
		{parts(p(1, 6), p(1, 4)), w(8, 12), api.OK},
		{parts(p(1, 3), p(2, 5)), w(15, 15), api.OK},
		{parts(p(1, 8)), w(2, 8), api.OK},
		{parts(p(2, 8)), w(3, 8), api.OK},
		{parts(p(2, 16), p(2, 32)), w(8, 32), api.OK},
		{times(8, p(1, 24)), w(9, 24), api.OK},
		// 1 by the least period leads to less than 1, to just 1, above 1.
		{parts(p(1, 2), p(1, 5)), w(10, 10), api.OK},
		{parts(p(1, 3), p(1, 4)), w(11, 12), api.OK},
		{parts(p(1, 3), p(1, 3)), w(3, 3), api.OK},
		{parts(p(1, 2)), w(2, 2), api.OK},
		{parts(p(1, 4), p(1, 2)), w(4, 4), api.OK},
		{parts(p(3, 4), p(1, 5)), w(20, 20), api.OK},
		{parts(p(2, 3), p(1, 6)), w(6, 6), api.OK},
		{parts(p(top-1, top)), w(top, top), api.OK},
		{parts(p(top-2, top)), w(top-1, top), api.OK},
		{parts(p(1, top)), w(2, top), api.OK},
		{times(8, p(1, top)), w(9, top), api.OK},
		// They use just 1, just below it, just above it.
		{parts(p(1, 1)), w(1, 1), api.OK},
		{parts(p(7, 7)), w(7, 7), api.OK},
		{parts(p(1, 2), p(1, 2)), w(2, 2), api.OK},
		{parts(p(1, 2), p(1, 3), p(1, 6)), w(6, 6), api.OK},
		{times(8, p(1, 8)), w(8, 8), api.OK},
		{times(8, p(top/8, top)), w(top, top), api.OK},
		{parts(p(top, top)), w(top, top), api.OK},
		{parts(p(1, 2), p(top/2-1, top)), w(top, top), api.OK},
		{parts(p(1, 2), p(1, 3), p(1, 7)), w(42, 42), api.OK},
		{parts(p(1, 2), p(top/2+1, top)), w(0, 0), api.ErrQuota},
		{parts(p(1, 2), p(1, 2), p(1, top)), w(0, 0), api.ErrQuota},
		{parts(p(1, 1), p(1, top)), w(0, 0), api.ErrQuota},
		{parts(p(1, 2), p(1, 3), p(1, 7), p(1, 41)), w(0, 0), api.ErrQuota},
		{parts(p(2, 3), p(2, 5)), w(0, 0), api.ErrQuota},
		{times(8, p(1, 1)), w(0, 0), api.ErrQuota},
		{times(8, p(top, top)), w(0, 0), api.ErrQuota},
		{times(8, p(1, 7)), w(0, 0), api.ErrQuota},
		// The least common period is MaxP, and just above it (17 times 61681, 3 times 349526, 2 times 524289), and far above.
		{parts(p(1, 2), p(1, top)), w(top, top), api.OK},
		{parts(p(1, 1024), p(1, top), p(1, 64)), w(1024+1+16384+16384, top), api.OK},
		{parts(p(1, 25), p(1, 41), p(1, 1023)), w(41943+25575+1025+41943, 1048575), api.OK},
		{parts(p(1, top-1), p(1, 3)), w(1+349525+349525, top-1), api.OK},
		{parts(p(1, 17), p(1, 61681)), w(0, 0), api.ErrOver},
		{parts(p(1, 61681), p(1, 17)), w(0, 0), api.ErrOver},
		{parts(p(1, 3), p(1, 349526)), w(0, 0), api.ErrOver},
		{parts(p(1, 2), p(1, 524289)), w(0, 0), api.ErrOver},
		{parts(p(1, 524288), p(1, 3)), w(0, 0), api.ErrOver},
		{parts(p(1, top), p(1, 3)), w(0, 0), api.ErrOver},
		{parts(p(1, top), p(1, top-1)), w(0, 0), api.ErrOver},
		{parts(p(1, 1048573), p(1, 1048571), p(1, 1048559), p(1, 1048549)), w(0, 0), api.ErrOver},
		{parts(p(1, 1048573), p(2, 1048571), p(3, 1048559), p(4, 1048549), p(5, 1048517), p(6, 1048507), p(7, 1048447), p(8, 1048433)), w(0, 0), api.ErrOver},
		// More than one error would do.
		{parts(p(1, top), p(1, 3), p(0, 1)), w(0, 0), api.ErrArg},
		{parts(p(1, 1), p(1, 1), p(2, 1)), w(0, 0), api.ErrArg},
		{times(9, p(1, 1)), w(0, 0), api.ErrArg},
		{parts(p(top, top), p(3, 3)), w(0, 0), api.ErrOver},
		{parts(p(1, 1048573), p(1048571, 1048571), p(1048559, 1048559), p(1048549, 1048549)), w(0, 0), api.ErrOver},
		{parts(p(1, 1), p(1, 17), p(1, 61681)), w(0, 0), api.ErrOver},
	} {
		got, e := Weight(c.l)
		if got != c.want || e != c.e {
			t.Errorf("Weight %v: %v, %d, want %v, %d", c.l, got, e, c.want, c.e)
		}
	}
}

// small is all lists of up to n parts, of periods up to 5.
func small(n int) [][]api.Part {
	var single []api.Part
	for period := int64(1); period <= 5; period++ {
		for quanta := int64(1); quanta <= period; quanta++ {
			single = append(single, p(quanta, period))
		}
	}
	all, longest := [][]api.Part{}, [][]api.Part{nil}
	for range n {
		var longer [][]api.Part
		for _, l := range longest {
			for _, x := range single {
				longer = append(longer, append(slices.Clone(l), x))
			}
		}
		all, longest = append(all, longer...), longer
	}
	return all
}

// any8 is any list of one to eight parts that may be; of its periods, most are of few primes, so that their common one is not too great.
func any8(r *rand.Rand) []api.Part {
	var l []api.Part
	for n := 1 + r.Intn(8); n > 0; n-- {
		period := int64(1)
		for range r.Intn(8) {
			period *= []int64{2, 2, 2, 3, 5, 1, 1, 7}[r.Intn(8)]
		}
		if r.Intn(40) == 0 {
			period = 1 + r.Int63n(top)
		}
		l = append(l, p(1+r.Int63n(min(period, 1+period/int64(n))), period))
		if l[len(l)-1].P > top {
			l[len(l)-1] = p(1, top)
		}
	}
	return l
}

// P14.1: held against plain fractions of any length; a weight that is told may be.
func TestManyWeights(t *testing.T) {
	r := rand.New(rand.NewSource(14))
	all := append(small(3), mayBe()...)
	for range 20000 {
		all = append(all, any8(r))
	}
	told := map[api.Errno]int{}
	for _, l := range all {
		got, e := Weight(l)
		if want, f := plainWeight(l); got != want || e != f {
			t.Fatalf("Weight %v: %v, %d, want %v, %d", l, got, e, want, f)
		}
		if e == api.OK && !window.Check(got) {
			t.Fatalf("Weight %v: %v, which may not be", l, got)
		}
		told[e]++
	}
	for _, e := range []api.Errno{api.OK, api.ErrOver, api.ErrQuota} {
		if told[e] < 500 {
			t.Errorf("error %d was told %d times alone", e, told[e])
		}
	}
}

// made is a supertask that there must be.
func made(t *testing.T, l []api.Part, at int64) *Super {
	t.Helper()
	s := New(l, at)
	if s == nil {
		t.Fatalf("New(%v, %d): nil", l, at)
	}
	return s
}

// P14.2: at which slots, and of which parts, there is a supertask; it has handed on nothing.
func TestNew(t *testing.T) {
	for _, l := range append(mayBe(), mayNot()[:50]...) {
		_, e := Weight(l)
		for _, at := range []int64{0, 1, 2, 1 << 20, 1<<32 + 7, end - 1, end} {
			s := New(l, at)
			if (s != nil) != (e == api.OK) {
				t.Fatalf("New(%v, %d): %v, but its weight is error %d", l, at, s, e)
			}
			if s != nil && (s.Served() != 0 || s.Idle() != 0 || s.Missed(at) != 0 || len(s.Jobs(at)) != len(l)) {
				t.Fatalf("New(%v, %d): %d, %d, %d, %v", l, at, s.Served(), s.Idle(), s.Missed(at), s.Jobs(at))
			}
		}
		for _, at := range []int64{-1, -2, -1 << 20, -1 << 40, end + 1, end + 2, 1 << 41, 1 << 62, most, least, least + 1} {
			if New(l, at) != nil {
				t.Fatalf("New(%v, %d): a supertask", l, at)
			}
		}
	}
	for _, l := range [][]api.Part{nil, parts(p(0, 1)), parts(p(1, top), p(1, 3)), parts(p(1, 17), p(1, 61681)), parts(p(2, 3), p(2, 5)), parts(p(1, 1), p(1, top)), times(9, p(1, 9))} {
		same(t, fmt.Sprint("New ", l), New(l, 0) == nil, true)
	}
}

// plain is a supertask as the chapter tells it: all jobs up to a slot, gone over one by one.
type plain struct {
	all          []api.Job
	last         int64
	served, idle int64
}

// newPlain has all jobs that are released up to and with until.
func newPlain(l []api.Part, at, until int64) *plain {
	s := &plain{last: at}
	for part, x := range l {
		for i := int64(0); at+i*x.P <= until; i++ {
			s.all = append(s.all, api.Job{Part: part, Index: i, Release: at + i*x.P, Deadline: at + i*x.P + x.P, Left: x.E})
		}
	}
	return s
}

func (s *plain) may(at int64) bool { return at >= s.last && at <= 1<<40 }

func (s *plain) grant(at int64) (api.Job, bool) {
	if !s.may(at) {
		return api.Job{}, false
	}
	s.last = at
	first := -1
	for i, j := range s.all {
		if j.Release > at || j.Left == 0 {
			continue
		}
		if first == -1 || j.Deadline < s.all[first].Deadline || j.Deadline == s.all[first].Deadline && j.Part < s.all[first].Part {
			first = i
		}
	}
	if first == -1 {
		s.idle++
		return api.Job{}, false
	}
	s.served++
	s.all[first].Left--
	return s.all[first], true
}

func (s *plain) jobs(at int64) []api.Job {
	var l []api.Job
	if !s.may(at) {
		return l
	}
	of := map[int]int{}
	for _, j := range s.all {
		if j.Release <= at && j.Left > 0 && of[j.Part] < 1000 {
			of[j.Part]++
			l = append(l, j)
		}
	}
	// Those of one deadline lie in the order of their parts already.
	slices.SortStableFunc(l, func(a, b api.Job) int { return int(a.Deadline - b.Deadline) })
	return l
}

func (s *plain) missed(at int64) int64 {
	n := int64(0)
	for _, j := range s.all {
		if s.may(at) && j.Deadline <= at {
			n += j.Left
		}
	}
	return n
}

// alike holds all that is told at some slots against a plain one.
func alike(t *testing.T, what string, s *Super, x *plain, slots ...int64) {
	t.Helper()
	if s.Served() != x.served || s.Idle() != x.idle {
		t.Fatalf("%s: served %d, idle %d, want %d, %d", what, s.Served(), s.Idle(), x.served, x.idle)
	}
	for _, at := range slots {
		if got, want := s.Jobs(at), x.jobs(at); !slices.Equal(got, want) {
			t.Fatalf("%s: Jobs(%d): %v, want %v", what, at, got, want)
		}
		if got, want := s.Missed(at), x.missed(at); got != want {
			t.Fatalf("%s: Missed(%d): %d, want %d", what, at, got, want)
		}
	}
}

// grants grants a slot, and holds what is told against a plain one.
func grants(t *testing.T, what string, s *Super, x *plain, at int64) (api.Job, bool) {
	t.Helper()
	got, ok := s.Grant(at)
	if want, there := x.grant(at); got != want || ok != there {
		t.Fatalf("%s: Grant(%d): %v, %v, want %v, %v", what, at, got, ok, want, there)
	}
	return got, ok
}

// P14.2, P14.3: all rows of grants at few slots, those ahead New's and the last one's among them, of some parts each.
func TestRows(t *testing.T) {
	const n, long = 8, 5
	for _, l := range [][]api.Part{
		parts(p(1, 2)), parts(p(1, 1)), parts(p(2, 3)), parts(p(1, 4), p(1, 6)), parts(p(1, 3), p(2, 5)), parts(p(1, 6), p(1, 3), p(1, 2)), parts(p(2, 4), p(1, 2)), parts(p(1, 5), p(1, 5)),
	} {
		rows := 1
		for range long {
			rows *= n
		}
		for row := range rows {
			s, x, rest := made(t, l, 2), newPlain(l, 2, 12), row
			what := fmt.Sprint(l)
			for range long {
				at := int64(rest % n)
				rest /= n
				grants(t, fmt.Sprint(what, " row ", row), s, x, at)
			}
			if row%37 == 0 {
				alike(t, fmt.Sprint(what, " row ", row), s, x, 0, 1, 2, 3, 4, 5, 6, 7, 8, 9, 10, 11)
			}
		}
	}
}

// row is what grants tell at slots, in few words.
func row(s *Super, slots ...int64) string {
	said := ""
	for _, at := range slots {
		j, ok := s.Grant(at)
		if !ok && j != (api.Job{}) {
			said += "something, false;"
		}
		if ok {
			said += fmt.Sprint(j.Part, ":", j.Index, " ", j.Release, "-", j.Deadline, " ", j.Left, ";")
		} else {
			said += "no;"
		}
	}
	return said
}

// counted is what a supertask counted.
func counted(s *Super) string { return fmt.Sprint(s.Served(), " ", s.Idle()) }

// P14.2: slots at which there may be no grant; they count nothing, and change nothing.
func TestGrantSlots(t *testing.T) {
	s := made(t, parts(p(2, 4)), 10)
	same(t, "below New", row(s, 9, 0, -1, least, 5), "no;no;no;no;no;")
	same(t, "above the last one", row(s, end+1, end+2, 1<<41, 1<<62, most), "no;no;no;no;no;")
	same(t, "counted", counted(s), "0 0")
	same(t, "at New", row(s, 10), "0:0 10-14 1;")
	same(t, "below the last one", row(s, 9, 0, -1, least), "no;no;no;no;")
	same(t, "counted", counted(s), "1 0")
	same(t, "twice at one", row(s, 10, 10, 10), "0:0 10-14 0;no;no;")
	same(t, "counted", counted(s), "2 2")
	same(t, "later", row(s, 16), "0:1 14-18 1;")
	same(t, "earlier than the last one", row(s, 15, 14, 10), "no;no;no;")
	same(t, "counted", counted(s), "3 2")
	same(t, "of none", row(s, 16, 17), "0:1 14-18 0;no;")
	same(t, "earlier than one that found none", row(s, 16), "no;")
	same(t, "counted", counted(s), "4 3")
	same(t, "at the end", row(s, end, end, end+1, end-1), "0:2 18-22 1;0:2 18-22 0;no;no;")
	same(t, "counted", counted(s), "6 3")
	same(t, "at the end again", row(s, end), "0:3 22-26 1;")
}

// P14.2: one that begins at the last slot, and one at the first.
func TestEnds(t *testing.T) {
	s := made(t, parts(p(1, 3), p(1, 2)), end)
	same(t, "Grant", row(s, end-1, end+1, end, end, end), fmt.Sprint("no;no;1:0 ", end, "-", end+2, " 0;0:0 ", end, "-", end+3, " 0;no;"))
	same(t, "counted", counted(s), "2 1")
	same(t, "Missed", fmt.Sprint(s.Missed(end), s.Missed(end+2), s.Missed(end+3), s.Missed(most)), "0 0 0 0")
	s = made(t, parts(p(1, 3), p(1, 2)), end)
	same(t, "Jobs", fmt.Sprint(s.Jobs(end)), fmt.Sprint("[{1 0 ", end, " ", end+2, " 1} {0 0 ", end, " ", end+3, " 1}]"))
	for _, at := range []int64{end - 1, end + 1, 0, -1, most, least} {
		same(t, "Jobs", len(s.Jobs(at)), 0)
		same(t, "Missed", s.Missed(at), int64(0))
	}
	s = made(t, parts(p(1, 1)), 0)
	same(t, "Grant", row(s, -1, 0, 0, 1), "no;0:0 0-1 0;no;0:1 1-2 0;")
	s = made(t, parts(p(1, top)), end-1)
	same(t, "Grant", row(s, end-1, end), fmt.Sprint("0:0 ", end-1, "-", end-1+top, " 0;no;"))
}

// P14.2: of one deadline the lesser part goes ahead, be its jobs released later; of one part, its jobs go in their order.
func TestOrder(t *testing.T) {
	s := made(t, parts(p(1, 5), p(1, 5), p(1, 5)), 0)
	same(t, "as much", row(s, 0, 0, 0, 0, 5, 5, 5), "0:0 0-5 0;1:0 0-5 0;2:0 0-5 0;no;0:1 5-10 0;1:1 5-10 0;2:1 5-10 0;")
	s = made(t, parts(p(1, 3), p(1, 6)), 0)
	same(t, "as late", row(s, 3, 3, 3), "0:0 0-3 0;0:1 3-6 0;1:0 0-6 0;")
	s = made(t, parts(p(1, 6), p(1, 3)), 0)
	same(t, "as late", row(s, 3, 3, 3), "1:0 0-3 0;0:0 0-6 0;1:1 3-6 0;")
	s = made(t, parts(p(2, 4)), 100)
	same(t, "of one part", row(s, 112, 112, 112, 112, 112, 112, 112, 112, 112), "0:0 100-104 1;0:0 100-104 0;0:1 104-108 1;0:1 104-108 0;0:2 108-112 1;0:2 108-112 0;0:3 112-116 1;0:3 112-116 0;no;")
	s = made(t, parts(p(1, 9), p(2, 7), p(1, 8)), 0)
	same(t, "of many", row(s, 0, 0, 0, 0, 0, 7, 8, 9), "1:0 0-7 1;1:0 0-7 0;2:0 0-8 0;0:0 0-9 0;no;1:1 7-14 1;1:1 7-14 0;2:1 8-16 0;")
	// One that comes later and is due earlier goes ahead of one that had a quantum already.
	s = made(t, parts(p(3, 10), p(1, 4)), 0)
	same(t, "ahead of one that was served", row(s, 0, 0, 4, 4), "1:0 0-4 0;0:0 0-10 2;1:1 4-8 0;0:0 0-10 1;")
}

// P14.2: a job that has no quanta left ahead of its next one's release, and Left as it is told; P14.3: what grants that find none count.
func TestLeft(t *testing.T) {
	s := made(t, parts(p(3, 5)), 7)
	same(t, "Grant", row(s, 7, 8, 9, 10, 11, 12, 12), "0:0 7-12 2;0:0 7-12 1;0:0 7-12 0;no;no;0:1 12-17 2;0:1 12-17 1;")
	same(t, "counted", counted(s), "5 2")
	same(t, "Jobs", fmt.Sprint(s.Jobs(12), s.Jobs(16), s.Jobs(17), s.Jobs(11)), "[{0 1 12 17 1}] [{0 1 12 17 1}] [{0 1 12 17 1} {0 2 17 22 3}] []")
	same(t, "Grant", row(s, 12, 12), "0:1 12-17 0;no;")
	same(t, "Jobs where none waits", fmt.Sprint(s.Jobs(12), s.Jobs(16), s.Jobs(17)), "[] [] [{0 2 17 22 3}]")
	same(t, "counted", counted(s), "6 3")
}

// P14.2: quanta are missed at a deadline, and behind it; not one slot ahead of it.
func TestMissed(t *testing.T) {
	s := made(t, parts(p(2, 5), p(1, 3)), 10)
	got := []int64{}
	for at := int64(9); at <= 26; at++ {
		got = append(got, s.Missed(at))
	}
	same(t, "Missed", fmt.Sprint(got), "[0 0 0 0 1 1 3 4 4 4 5 7 7 8 8 8 11 11]")
	same(t, "Grant", row(s, 10, 11), "1:0 10-13 0;0:0 10-15 1;")
	same(t, "Missed", fmt.Sprint(s.Missed(10), s.Missed(11), s.Missed(13), s.Missed(14), s.Missed(15), s.Missed(16), s.Missed(20)), "0 0 0 0 1 2 5")
	// What is granted late is left no more.
	same(t, "Grant", row(s, 20, 20), "0:0 10-15 0;1:1 13-16 0;")
	same(t, "Missed", fmt.Sprint(s.Missed(19), s.Missed(20), s.Missed(21)), "0 3 3")
	same(t, "Grant", row(s, 20, 20, 20, 20, 20), "1:2 16-19 0;0:1 15-20 1;0:1 15-20 0;1:3 19-22 0;0:2 20-25 1;")
	same(t, "Missed", fmt.Sprint(s.Missed(20), s.Missed(24), s.Missed(25), s.Missed(26)), "0 0 2 2")
	same(t, "counted", counted(s), "9 0")
}

// P14.2: many jobs of one part wait: no more than its first 1000 are told, but all have missed.
func TestManyWait(t *testing.T) {
	for _, c := range []struct {
		l     []api.Part
		at    int64
		count int
	}{
		{parts(p(1, 2)), 1996, 999}, {parts(p(1, 2)), 1997, 999}, {parts(p(1, 2)), 1998, 1000}, {parts(p(1, 2)), 2000, 1000}, {parts(p(1, 2)), 9000, 1000},
		{parts(p(1, 2), p(1, 3)), 5000, 2000}, {parts(p(1, 3), p(1, 2), p(1, 6)), 2500, 834 + 1000 + 417}, {times(8, p(1, 8)), 8100, 8000}, {times(8, p(1, 8)), 7991, 7992},
	} {
		s, x := made(t, c.l, 0), newPlain(c.l, 0, c.at+20)
		same(t, fmt.Sprint("Jobs of ", c.l, " at ", c.at), len(s.Jobs(c.at)), c.count)
		alike(t, fmt.Sprint(c.l), s, x, c.at, c.at+1)
		for range 5 {
			grants(t, fmt.Sprint(c.l), s, x, c.at)
		}
		alike(t, fmt.Sprint(c.l), s, x, c.at-1, c.at, c.at+10)
	}
	s := made(t, parts(p(2, 3)), 5)
	l := s.Jobs(5 + 3*5000)
	same(t, "Jobs", fmt.Sprint(len(l), l[0], l[999]), "1000 {0 0 5 8 2} {0 999 3002 3005 2}")
	same(t, "Missed", s.Missed(5+3*5000), int64(10000))
	same(t, "Grant", row(s, 20000, 20000, 20000), "0:0 5-8 1;0:0 5-8 0;0:1 8-11 1;")
	l = s.Jobs(20000)
	same(t, "Jobs", fmt.Sprint(len(l), l[0], l[1], l[999]), "1000 {0 1 8 11 1} {0 2 11 14 2} {0 1000 3005 3008 2}")
}

// P14.2: a slot that lies as far behind the last one as can be.
func TestFar(t *testing.T) {
	for _, c := range []struct {
		l      []api.Part
		at     int64
		missed int64
		first  string
	}{
		{parts(p(1, 1)), 0, end, "0:0 0-1 0;"},
		{parts(p(7, 7)), 3, (end - 3) / 7 * 7, "0:0 3-10 6;"},
		{times(8, p(1, 8)), 0, end, "0:0 0-8 0;"},
		{parts(p(1, top)), 0, end / top, "0:0 0-1048576 0;"},
		{parts(p(top, top)), 0, end, "0:0 0-1048576 1048575;"},
		{parts(p(top, top)), 1, end - top, "0:0 1-1048577 1048575;"},
		{parts(p(1, 2), p(1, 3)), 0, end/2 + end/3, "0:0 0-2 0;"},
		{parts(p(1, 1)), end - 1, 1, fmt.Sprint("0:0 ", end-1, "-", end, " 0;")},
		{parts(p(1, top), p(1, top/2)), end - top/2, 1, fmt.Sprint("1:0 ", end-top/2, "-", end, " 0;")},
	} {
		s := made(t, c.l, c.at)
		same(t, fmt.Sprint("Missed of ", c.l), s.Missed(end), c.missed)
		jobs := s.Jobs(end)
		same(t, fmt.Sprint("Jobs of ", c.l), len(jobs) >= 1 && len(jobs) <= 1000*len(c.l), true)
		same(t, fmt.Sprint("Jobs of ", c.l), jobs[0].Index, int64(0))
		same(t, fmt.Sprint("Grant of ", c.l), row(s, end), c.first)
		same(t, fmt.Sprint("Missed of ", c.l), s.Missed(end), c.missed-1)
		same(t, "counted", counted(s), "1 0")
		same(t, "slots ahead", row(s, end-1, c.at-1), "no;no;")
	}
	s := made(t, parts(p(1, 2)), 0)
	same(t, "Grant", row(s, 0, 1, 1<<39, 1<<39, end), "0:0 0-2 0;no;0:1 2-4 0;0:2 4-6 0;0:3 6-8 0;")
	same(t, "Missed", s.Missed(end), int64(1<<39-4))
	l := s.Jobs(end)
	same(t, "Jobs", fmt.Sprint(len(l), l[0], l[999]), "1000 {0 4 8 10 1} {0 1003 2006 2008 1}")
}

// fits is any list of parts that has a weight of no great period, and that weight.
func fits(r *rand.Rand) ([]api.Part, api.Weight) {
	for {
		periods := [][]int64{{1, 2, 3, 4, 6, 12}, {2, 4, 8, 16, 3}, {5, 10, 15, 3}, {7, 14, 2}, {9, 4, 6, 12, 18}, {11, 3}, {20, 30, 12, 60}, {24, 16, 48, 36}}[r.Intn(8)]
		var l []api.Part
		for n := int64(1 + r.Intn(8)); n > 0; n-- {
			period := periods[r.Intn(len(periods))]
			l = append(l, p(1+r.Int63n(1+period/(n+1)), period))
			l[len(l)-1].E = min(l[len(l)-1].E, period)
		}
		if y, e := Weight(l); e == api.OK {
			return l, y
		}
	}
}

// P14.2, P14.3: many calls by chance, held against jobs gone over one by one.
func TestManyCalls(t *testing.T) {
	r := rand.New(rand.NewSource(15))
	served, idle := int64(0), int64(0)
	for range 1500 {
		l, _ := fits(r)
		begin := []int64{0, 1, r.Int63n(1000), r.Int63n(end), end - r.Int63n(200)}[r.Intn(5)]
		s, x := made(t, l, begin), newPlain(l, begin, begin+400)
		what, at := fmt.Sprint(l, " from ", begin), begin
		for range 60 {
			switch r.Intn(8) {
			case 0:
				at += r.Int63n(20)
			case 1, 2, 3:
				at++
			case 4: // one that there may not be, mostly
				grants(t, what, s, x, at-1-r.Int63n(5))
			case 5:
				grants(t, what, s, x, []int64{-1, end + 1, least, most}[r.Intn(4)])
			}
			if at > begin+390 {
				break
			}
			grants(t, what, s, x, at)
			if r.Intn(4) == 0 {
				alike(t, what, s, x, at-1, at, at+1, at+r.Int63n(9))
			}
		}
		alike(t, what, s, x, x.last-1, x.last, x.last+1, begin, begin-1, end+1)
		served, idle = served+x.served, idle+x.idle
	}
	if served < 20000 || idle < 5000 {
		t.Errorf("%d served, %d idle: too few to tell", served, idle)
	}
}

// slots is one slot within each window of a weight, as pick tells, from a slot on, up to a deadline above until. If one by one, each lies behind the one ahead.
func slots(y api.Weight, begin, until int64, single bool, pick func(from, to int64) int64) []int64 {
	var l []int64
	last := begin - 1
	for i := int64(1); ; i++ {
		from, to := begin+window.Release(y, i), begin+window.Deadline(y, i)
		if to > until {
			return l
		}
		if single {
			from = max(from, last+1)
		}
		last = pick(from, to)
		l = append(l, last)
	}
}

// What follows of P14.1 (T4): granted one quantum in each window of its weight, wherever within, it misses nothing.
func TestMissesNothing(t *testing.T) {
	r := rand.New(rand.NewSource(16))
	first := func(from, to int64) int64 { return from }
	last := func(from, to int64) int64 { return to - 1 }
	some := func(from, to int64) int64 { return from + r.Int63n(to-from) }
	ends := func(from, to int64) int64 { return []int64{from, to - 1}[r.Intn(2)] }
	short := 0
	for range 700 {
		l, y := fits(r)
		begin := []int64{0, r.Int63n(end / 2), end - 4*y.P - r.Int63n(50)}[r.Intn(3)]
		until := begin + 4*y.P
		for _, pick := range []func(from, to int64) int64{first, last, some, ends} {
			s, x := made(t, l, begin), newPlain(l, begin, until)
			granted := slots(y, begin, until, r.Intn(2) == 0, pick)
			slices.Sort(granted)
			for at := begin; at <= until; at++ {
				// Ahead of what is granted at a slot, all that had its deadline by then must have had its quanta.
				if got, plainly := s.Missed(at), x.missed(at); got != 0 || plainly != 0 {
					t.Fatalf("%v from %d of %v: Missed(%d): %d, by jobs %d", l, begin, y, at, got, plainly)
				}
				for len(granted) > 0 && granted[0] == at {
					grants(t, fmt.Sprint(l), s, x, at)
					granted = granted[1:]
				}
			}
			same(t, "what is left of all that was due", s.Missed(until), int64(0))
		}
		if y.E < y.P {
			short++
		}
	}
	if short < 200 {
		t.Errorf("%d weights alone are below 1", short)
	}
}

// P14.1: without 1 by the least period, something may be missed, though each window has its quantum.
func TestNotLess(t *testing.T) {
	l := parts(p(1, 5), p(1, 45))
	got, e := Weight(l)
	same(t, "Weight", fmt.Sprint(got, int(e)), "{19 45} 0")
	s := made(t, l, 0)
	for i, at := range []int64{0, 4, 13} {
		i := int64(i) + 1
		same(t, "within its window", at >= window.Release(w(10, 45), i) && at < window.Deadline(w(10, 45), i), true)
		if at == 13 {
			same(t, "Missed", fmt.Sprint(s.Missed(9), s.Missed(10), s.Missed(13)), "0 1 1")
		}
		s.Grant(at)
	}
}

// A nil supertask, in each call.
func TestNil(t *testing.T) {
	var s *Super
	for range 2 {
		for _, at := range []int64{0, 1, -1, 10, end, end + 1, most, least} {
			same(t, "Grant", row(s, at), "no;")
			same(t, "Jobs", len(s.Jobs(at)), 0)
			same(t, "Missed", s.Missed(at), int64(0))
			same(t, "Served, Idle", counted(s), "0 0")
		}
	}
}

// P1: one that no New made has no parts, and began at 0; no call of it panics.
func TestZero(t *testing.T) {
	var s Super
	for _, at := range []int64{0, 0, 1, -1, least, 10, 9, end, end - 1, end + 1, most} {
		same(t, "Grant", row(&s, at), "no;")
		same(t, "Jobs", len(s.Jobs(at)), 0)
		same(t, "Missed", s.Missed(at), int64(0))
		same(t, "Served", s.Served(), int64(0))
	}
	same(t, "Idle", s.Idle(), int64(5))
}

// R3: parts that are handed in stay as they are, and may be changed behind the call.
func TestHandedIn(t *testing.T) {
	for _, l := range append(mayBe(), mayNot()[:60]...) {
		got := append(make([]api.Part, 0, len(l)+3), l...)
		Check(got)
		Use(got)
		y, e := Weight(got)
		s := New(got, 5)
		same(t, fmt.Sprint("handed in: ", l), slices.Equal(got, l), true)
		got = got[:cap(got)]
		for i := range got {
			got[i] = p(-7, most)
		}
		if again, f := Weight(l); again != y || f != e {
			t.Fatalf("Weight %v: %v, %d, then %v, %d", l, y, e, again, f)
		}
		if (s != nil) != (e == api.OK) || s == nil {
			continue
		}
		x := newPlain(l, 5, 40)
		for at := int64(5); at < 30; at += 2 {
			grants(t, fmt.Sprint(l), s, x, at)
		}
		alike(t, fmt.Sprint(l), s, x, 29, 30)
	}
}

// R3: what is told is the caller's own.
func TestToldIsNew(t *testing.T) {
	l := parts(p(1, 4), p(1, 6), p(1, 3))
	s, x := made(t, l, 0), newPlain(l, 0, 60)
	for at := int64(0); at < 40; at += 3 {
		for range 2 {
			jobs := s.Jobs(at)
			again := s.Jobs(at)
			jobs = jobs[:cap(jobs)]
			for i := range jobs {
				jobs[i] = api.Job{Part: 77, Index: -1, Release: most, Deadline: least, Left: -5}
			}
			same(t, "Jobs told ahead", slices.Equal(again, x.jobs(at)), true)
		}
		alike(t, fmt.Sprint(l), s, x, at, at+1)
		grants(t, fmt.Sprint(l), s, x, at)
	}
	for _, l := range append(mayBe(), nil, times(9, p(1, 9))) {
		a, b := Use(l), Use(l)
		kept := api.Ratio{Num: slices.Clone(b.Num), Den: slices.Clone(b.Den)}
		den := slices.Clone(a.Den)
		for i := range a.Num[:cap(a.Num)] {
			a.Num[:cap(a.Num)][i] += 7
		}
		same(t, "Den behind a changed Num", slices.Equal(a.Den, den), true)
		for i := range a.Den[:cap(a.Den)] {
			a.Den[:cap(a.Den)][i] += 7
		}
		if !equal(b, kept) || !equal(Use(l), kept) {
			t.Fatalf("Use %v changed with what was told", l)
		}
	}
}

// R3: supertasks have nothing in common, though they are of the same parts.
func TestApart(t *testing.T) {
	l := parts(p(1, 4), p(1, 6))
	a, b := made(t, l, 0), made(t, l, 3)
	same(t, "a", row(a, 0, 0, 0), "0:0 0-4 0;1:0 0-6 0;no;")
	same(t, "b", row(b, 2, 3), "no;0:0 3-7 0;")
	same(t, "counted", counted(a)+", "+counted(b), "2 1, 1 0")
	same(t, "Missed", fmt.Sprint(a.Missed(9), b.Missed(9)), "1 1")
}

// P14.2: Jobs and Missed change nothing, be they asked of slots far ahead.
func TestAskedOnly(t *testing.T) {
	l := parts(p(1, 4), p(1, 6))
	s, x := made(t, l, 0), newPlain(l, 0, 60)
	for at := int64(0); at < 30; at++ {
		for _, far := range []int64{at, at + 20, end, end + 1, -1, most} {
			s.Jobs(far)
			s.Missed(far)
		}
		grants(t, fmt.Sprint(l), s, x, at)
		alike(t, fmt.Sprint(l), s, x, at, at+5)
	}
}
