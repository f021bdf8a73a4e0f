package seats

import (
	"fmt"
	"math"
	"math/rand"
	"runtime"
	"slices"
	"testing"
	"time"

	"regatta/api"
)

const (
	most  = math.MaxInt
	least = math.MinInt
)

func same(t *testing.T, what string, got, want any) {
	t.Helper()
	if got != want {
		t.Fatalf("%s: %v, want %v", what, got, want)
	}
}

// take asks that the next seat is that one.
func take(t *testing.T, s *Seats, want int) {
	t.Helper()
	if id, e := s.Take(); id != want || e != api.OK {
		t.Fatalf("Take: %d, %d, want %d, %d", id, e, want, api.OK)
	}
}

// full asks that there is no next seat.
func full(t *testing.T, s *Seats) {
	t.Helper()
	if id, e := s.Take(); id != 0 || e != api.ErrFull {
		t.Fatalf("Take, all taken: %d, %d, want 0, %d", id, e, api.ErrFull)
	}
}

// give asks that Give tells that.
func give(t *testing.T, s *Seats, id int, want api.Errno) {
	t.Helper()
	if e := s.Give(id); e != want {
		t.Fatalf("Give of %d: %d, want %d", id, e, want)
	}
}

// has asks that those are taken, and of all n no other one.
func has(t *testing.T, s *Seats, n int, want ...int) {
	t.Helper()
	if got := s.IDs(); !slices.Equal(got, want) {
		t.Fatalf("IDs: %v, want %v", got, want)
	}
	same(t, "Left", s.Left(), n-len(want))
	for id := range n {
		if s.Taken(id) != slices.Contains(want, id) {
			t.Fatalf("Taken of %d: %v, but %v are", id, s.Taken(id), want)
		}
	}
	for _, id := range far(n) {
		if s.Taken(id) {
			t.Fatalf("Taken of %d, of %d: true", id, n)
		}
	}
}

// far is numbers that are no seats, of n at most 64; some of them would be, if they were cut to fewer bits.
func far(n int) []int {
	return []int{least, least + 1, -1 << 32, -1 << 31, -1 << 8, -n - 1, -2, -1, n, n + 1, 64, 65, 128, 1 << 8, 1 << 16, 1 << 31, 1 << 32, 1<<32 + 1, most - 1, most}
}

// fill takes all of n seats that were never taken.
func fill(t *testing.T, n int) *Seats {
	t.Helper()
	s := New(n)
	for id := range n {
		take(t, s, id)
	}
	return s
}

// plain is n seats by a plain list of those that are not taken, the one that has been so for the longest time first.
type plain struct {
	n    int
	free []int
}

func list(n int) *plain {
	p := &plain{n: n}
	for id := range n {
		p.free = append(p.free, id)
	}
	return p
}

func (p *plain) take() (int, api.Errno) {
	if len(p.free) == 0 {
		return 0, api.ErrFull
	}
	id := p.free[0]
	p.free = p.free[1:]
	return id, api.OK
}

func (p *plain) give(id int) api.Errno {
	switch {
	case id < 0 || id >= p.n:
		return api.ErrArg
	case slices.Contains(p.free, id):
		return api.ErrNone
	}
	p.free = append(p.free, id)
	return api.OK
}

func (p *plain) taken() []int {
	var l []int
	for id := range p.n {
		if !slices.Contains(p.free, id) {
			l = append(l, id)
		}
	}
	return l
}

// pair is seats, and what they are held against.
type pair struct {
	s *Seats
	p *plain
}

func both(n int) pair { return pair{New(n), list(n)} }

// takes is a number by which step takes.
const takes = least + 2

// step is a Take, or the Give of a number, of both, which must tell the same.
func (x pair) step(t *testing.T, id int) {
	t.Helper()
	if id != takes {
		give(t, x.s, id, x.p.give(id))
		return
	}
	got, e := x.s.Take()
	want, f := x.p.take()
	if got != want || e != f {
		t.Fatalf("Take: %d, %d, want %d, %d", got, e, want, f)
	}
}

func (x pair) alike(t *testing.T) {
	t.Helper()
	has(t, x.s, x.p.n, x.p.taken()...)
}

// drain takes all that are left, which tells their order, too.
func (x pair) drain(t *testing.T) {
	t.Helper()
	for range x.p.n + 1 {
		x.step(t, takes)
		x.alike(t)
	}
}

// P17.1: the chapter's example.
func TestExample(t *testing.T) {
	s := New(2)
	take(t, s, 0)
	take(t, s, 1)
	full(t, s)
	give(t, s, 1, api.OK)
	give(t, s, 0, api.OK)
	take(t, s, 1)
	has(t, s, 2, 1)
}

// P17.1: New's bounds.
func TestNew(t *testing.T) {
	for _, n := range []int{least, least + 1, -1 << 32, -64, -2, -1, 0, 65, 66, 128, 1024, 1 << 31, 1<<32 + 1, most - 1, most} {
		if s := New(n); s != nil {
			t.Errorf("New(%d): %v, want nil", n, s)
		}
	}
	for n := 1; n <= 64; n++ {
		s := New(n)
		if s == nil {
			t.Fatalf("New(%d): nil", n)
		}
		has(t, s, n)
		for id := range n {
			give(t, s, id, api.ErrNone)
		}
		give(t, s, n, api.ErrArg)
	}
}

// P17.1: seats that were never taken go by their numbers, up to when all are taken.
func TestTake(t *testing.T) {
	for n := 1; n <= 64; n++ {
		s := New(n)
		var ids []int
		for id := range n {
			same(t, "Left ahead of Take", s.Left(), n-id)
			take(t, s, id)
			ids = append(ids, id)
			has(t, s, n, ids...)
		}
		for range 3 {
			full(t, s)
			has(t, s, n, ids...)
		}
	}
}

// P17.1: Take behind a Give, when all were taken.
func TestTakeAgain(t *testing.T) {
	for _, n := range []int{1, 2, 3, 7, 64} {
		s := fill(t, n)
		for id := range n {
			full(t, s)
			give(t, s, id, api.OK)
			same(t, "Left of one", s.Left(), 1)
			take(t, s, id)
			full(t, s)
			same(t, "Left of none", s.Left(), 0)
		}
		// All given back, falling: so they are told.
		for id := n - 1; id >= 0; id-- {
			give(t, s, id, api.OK)
		}
		has(t, s, n)
		for id := n - 1; id >= 0; id-- {
			take(t, s, id)
		}
		full(t, s)
	}
}

// P17.1: who was never taken goes ahead of who was given back, whatever their numbers are.
func TestLongest(t *testing.T) {
	s := New(4)
	take(t, s, 0)
	give(t, s, 0, api.OK)
	has(t, s, 4)
	take(t, s, 1)
	take(t, s, 2)
	give(t, s, 2, api.OK)
	give(t, s, 1, api.OK)
	take(t, s, 3)
	has(t, s, 4, 3)
	// Now all have been taken: 0 was given back first, then 2, then 1.
	take(t, s, 0)
	give(t, s, 3, api.OK)
	take(t, s, 2)
	give(t, s, 0, api.OK)
	take(t, s, 1)
	has(t, s, 4, 1, 2)
	take(t, s, 3)
	take(t, s, 0)
	full(t, s)
	has(t, s, 4, 0, 1, 2, 3)
}

// P17.1: one alone that goes and comes is another one each time, up to when all have been there.
func TestRound(t *testing.T) {
	for n := 1; n <= 64; n++ {
		s := New(n)
		for k := range 3*n + 1 {
			take(t, s, k%n)
			has(t, s, n, k%n)
			give(t, s, k%n, api.OK)
			has(t, s, n)
		}
	}
}

// P17.1: all orders in which up to five seats are given back are those in which they are taken again.
func TestOrders(t *testing.T) {
	for n := 1; n <= 5; n++ {
		s := fill(t, n)
		var all func(order []int)
		all = func(order []int) {
			for id := range n {
				if !slices.Contains(order, id) {
					all(append(slices.Clone(order), id))
				}
			}
			if len(order) < n {
				return
			}
			for _, id := range order {
				give(t, s, id, api.OK)
			}
			for _, id := range order {
				take(t, s, id)
			}
			full(t, s)
		}
		all(nil)
	}
}

// P17.1: what Give tells of seats that are taken, that are not, that were given back, and of those that there are not.
func TestGive(t *testing.T) {
	for _, n := range []int{1, 2, 5, 63, 64} {
		fresh := New(n)
		for id := range n {
			give(t, fresh, id, api.ErrNone)
		}
		all := fill(t, n)
		for id := range n {
			give(t, all, id, api.OK)
			give(t, all, id, api.ErrNone)
			give(t, all, id, api.ErrNone)
			same(t, "Taken of who was given back", all.Taken(id), false)
			same(t, "Left", all.Left(), id+1)
		}
		first := New(n)
		take(t, first, 0)
		for _, s := range []*Seats{fresh, all, first} {
			for _, id := range far(n) {
				give(t, s, id, api.ErrArg)
			}
		}
		has(t, fresh, n)
		has(t, all, n)
		has(t, first, n, 0)
		for id := 1; id < n; id++ {
			give(t, first, id, api.ErrNone)
		}
		give(t, first, 0, api.OK)
		has(t, first, n)
	}
}

// P17.1: those that are taken are told rising, in whatever order they were.
func TestIDs(t *testing.T) {
	s := fill(t, 64)
	for _, id := range []int{63, 0, 31, 32, 7} {
		give(t, s, id, api.OK)
	}
	for _, id := range []int{63, 0, 31} {
		take(t, s, id)
	}
	var want []int
	for id := range 64 {
		if id != 32 && id != 7 {
			want = append(want, id)
		}
	}
	has(t, s, 64, want...)
	s = fill(t, 5)
	give(t, s, 4, api.OK)
	give(t, s, 1, api.OK)
	give(t, s, 3, api.OK)
	has(t, s, 5, 0, 2)
	take(t, s, 4)
	has(t, s, 5, 0, 2, 4)
	take(t, s, 1)
	has(t, s, 5, 0, 1, 2, 4)
}

// P17.1: what a nil one tells, each time.
func TestNil(t *testing.T) {
	var s *Seats
	for _, s := range []*Seats{s, New(0), New(65)} {
		for range 2 {
			for _, id := range []int{least, -1, 0, 1, 2, 63, 64, most} {
				give(t, s, id, api.ErrArg)
				same(t, "Taken of nil", s.Taken(id), false)
			}
			id, e := s.Take()
			same(t, "Take of nil", fmt.Sprint(id, int(e)), "0 1")
			same(t, "Left of nil", s.Left(), 0)
			same(t, "IDs of nil", len(s.IDs()), 0)
		}
	}
}

// P1: a zero one has no seats, and none of its calls panics, or waits.
func TestZero(t *testing.T) {
	ends(t, "calls of a zero one", func() {
		s := new(Seats)
		s.Take()
		s.Give(0)
		s.Take()
	})
	s := new(Seats)
	for range 2 {
		full(t, s)
		for _, id := range far(0) {
			give(t, s, id, api.ErrArg)
		}
		has(t, s, 0)
	}
}

// P17.1: all rows of up to six calls of up to three seats, held against the plain list, with all that can be told behind each one.
func TestRows(t *testing.T) {
	for n := 1; n <= 3; n++ {
		calls := []int{takes}
		for id := -1; id <= n; id++ {
			calls = append(calls, id)
		}
		rows := 1
		for range 6 {
			rows *= len(calls)
		}
		for k := range rows {
			x := both(n)
			for range 6 {
				x.step(t, calls[k%len(calls)])
				x.alike(t)
				k /= len(calls)
			}
			x.drain(t)
		}
	}
}

// some is what step is to do, by chance: in bias of ten cases it takes, else it mostly gives a seat that there is.
func some(d *rand.Rand, n, bias int) int {
	switch {
	case d.Intn(10) < bias:
		return takes
	case d.Intn(12) == 0:
		l := far(n)
		return l[d.Intn(len(l))]
	}
	return d.Intn(n)
}

// P17.1: long rows of calls by chance, held against the plain list: those that mostly take, those that mostly give, and those between.
func TestChance(t *testing.T) {
	d := rand.New(rand.NewSource(17))
	told := map[api.Errno]int{}
	for k := range 200 {
		n := 1 + d.Intn(64)
		if k%4 == 0 {
			n = 1 + d.Intn(4)
		}
		x := both(n)
		bias := 1
		for i := range 800 {
			if i%100 == 0 {
				bias = 1 + d.Intn(9)
			}
			id := some(d, n, bias)
			before := x.s.Left()
			x.step(t, id)
			if id == takes && before == 0 {
				told[api.ErrFull]++
			}
			if i%8 == 0 {
				x.alike(t)
			}
		}
		x.alike(t)
		x.drain(t)
	}
	if told[api.ErrFull] < 1000 {
		t.Errorf("just %d calls found all taken", told[api.ErrFull])
	}
}

// P17.1, R3: calls that only tell, and those that are refused, change nothing that is told afterwards, nor the order of what is left.
func TestNothingChanged(t *testing.T) {
	d := rand.New(rand.NewSource(18))
	for range 300 {
		n := 1 + d.Intn(12)
		x, y := both(n), New(n)
		for range 60 {
			id := some(d, n, 5)
			x.step(t, id)
			// y has the calls that were taken alone.
			if id == takes && y.Left() > 0 {
				y.Take()
			} else if id != takes && y.Taken(id) {
				y.Give(id)
			}
			refused(t, x)
			x.alike(t)
		}
		for range n + 1 {
			a, e := x.s.Take()
			b, f := y.Take()
			if a != b || e != f {
				t.Fatalf("Take: %d, %d, but %d, %d without what was refused", a, e, b, f)
			}
		}
	}
}

// refused asks for all that is refused now, and tells all that there is to tell.
func refused(t *testing.T, x pair) {
	t.Helper()
	for id := -2; id < x.p.n+2; id++ {
		if x.s.Taken(id) {
			continue
		}
		if e := x.s.Give(id); e != x.p.give(id) || e == api.OK {
			t.Fatalf("Give of %d, which is not taken: %d", id, e)
		}
	}
	if x.s.Left() == 0 {
		full(t, x.s)
	}
	if l := x.s.IDs(); len(l)+x.s.Left() != x.p.n {
		t.Fatalf("IDs: %v, but Left %d of %d", l, x.s.Left(), x.p.n)
	}
}

// ends asks that f ends: it fails ahead of the test's own time, if something waits for ever.
func ends(t *testing.T, what string, f func()) {
	t.Helper()
	done := make(chan struct{})
	go func() {
		defer close(done)
		f()
	}()
	select {
	case <-done:
	case <-time.After(time.Minute):
		t.Fatalf("%s: not ended in a minute", what)
	}
}

// P1, R4: no call waits, whatever was called ahead of it: none that takes when all are taken, none that gives when none is.
func TestEnds(t *testing.T) {
	for _, n := range []int{1, 2, 3, 64} {
		ends(t, fmt.Sprint("calls of ", n), func() {
			s := New(n)
			for range 3 {
				for range 2 {
					for id := range n {
						s.Give(id)
					}
				}
				for range 2*n + 3 {
					s.Take()
					s.Left()
					s.IDs()
				}
				for k := range 2 * n {
					s.Give(k / 2)
					s.Taken(k)
				}
			}
			d := rand.New(rand.NewSource(int64(n)))
			for range 20000 {
				if id := some(d, n, 5); id == takes {
					s.Take()
				} else {
					s.Give(id)
				}
			}
		})
	}
}

// P1: no call waits, either, when what a pointer to seats points to was copied, and both give what was taken ahead of that.
func TestCopied(t *testing.T) {
	for n := 1; n <= 4; n++ {
		s := fill(t, n)
		c := *s
		ends(t, fmt.Sprint("calls of a copy of ", n), func() {
			for range 3 {
				for id := range n {
					s.Give(id)
					c.Give(id)
				}
				for range n + 1 {
					s.Take()
					c.Take()
				}
			}
		})
	}
}

// R4: no goroutine outlives a call.
func TestNoGoroutine(t *testing.T) {
	before := runtime.NumGoroutine()
	for range 50 {
		s := fill(t, 64)
		full(t, s)
		give(t, s, 5, api.OK)
		give(t, s, 5, api.ErrNone)
		s.IDs()
	}
	if n := runtime.NumGoroutine(); n > before {
		t.Errorf("%d goroutines, %d ahead of the calls", n, before)
	}
}

// P17.1: two of them, and more, go their own ways.
func TestOwnWays(t *testing.T) {
	a, b := New(3), New(3)
	take(t, a, 0)
	take(t, a, 1)
	has(t, b, 3)
	give(t, b, 0, api.ErrNone)
	take(t, b, 0)
	give(t, a, 0, api.OK)
	has(t, a, 3, 1)
	has(t, b, 3, 0)
	d := rand.New(rand.NewSource(19))
	var l []pair
	for _, n := range []int{1, 2, 2, 3, 9, 9, 64, 64} {
		l = append(l, both(n))
	}
	for i := range 8000 {
		x := l[d.Intn(len(l))]
		x.step(t, some(d, x.p.n, 1+i/100%9))
		if i%40 == 0 {
			for _, y := range l {
				y.alike(t)
			}
		}
	}
	for _, x := range l {
		x.drain(t)
	}
}

// R3: what was told shares no memory with another answer, nor with the seats.
func TestMemory(t *testing.T) {
	for _, n := range []int{1, 2, 5, 64} {
		s := fill(t, n)
		give(t, s, n-1, api.OK)
		take(t, s, n-1)
		first, second := s.IDs(), s.IDs()
		want := slices.Clone(first)
		for i := range first {
			first[i] = -7
		}
		_ = append(first[:0:n], 77)
		if !slices.Equal(second, want) {
			t.Fatalf("IDs: %v, when another answer was changed", second)
		}
		has(t, s, n, want...)
		// Behind its end, too, there is nothing of another's.
		for i := range second[:cap(second)] {
			second[:cap(second)][i] = 99
		}
		has(t, s, n, want...)
		third := s.IDs()
		give(t, s, 0, api.OK)
		if !slices.Equal(third, want) {
			t.Fatalf("IDs: %v, when the seats went on", third)
		}
		has(t, s, n, want[1:]...)
		clear(third)
		take(t, s, 0)
		has(t, s, n, want...)
	}
}

// R4: the same calls have the same answers.
func TestSame(t *testing.T) {
	row := func() string {
		d := rand.New(rand.NewSource(20))
		s := New(16)
		told := ""
		for range 500 {
			if id := some(d, 16, 5); id == takes {
				n, e := s.Take()
				told += fmt.Sprint(n, int(e), ";")
			} else {
				told += fmt.Sprint(int(s.Give(id)), s.Left(), s.IDs(), ";")
			}
		}
		return told
	}
	first := row()
	for range 5 {
		same(t, "a row of calls", row(), first)
	}
}
