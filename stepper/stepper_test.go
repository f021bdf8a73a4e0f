package stepper

import (
	"math"
	"testing"

	"regatta/api"
	"regatta/window"
)

const (
	top   = 1 << 40 // the greatest number of a subtask
	late  = 1 << 61 // the greatest offset
	most  = math.MaxInt64
	least = math.MinInt64
)

func w(e, p int64) api.Weight { return api.Weight{E: e, P: p} }

// small are all weights whose period is at most 24, those that are not in lowest terms among them.
func small() []api.Weight {
	var l []api.Weight
	for p := int64(1); p <= 24; p++ {
		for e := int64(1); e <= p; e++ {
			l = append(l, w(e, p))
		}
	}
	return l
}

// great are weights of great periods: light ones, heavy ones, those just on either side, 1, and some that are not in lowest terms.
func great() []api.Weight {
	const p = api.MaxP
	return []api.Weight{
		w(1, p), w(2, p), w(3, p), w(7, p), w(349525, p),
		w(p/2-1, p), w(p/2, p), w(p/2+1, p), w(699051, p), w(p-7, p), w(p-2, p), w(p-1, p), w(p, p),
		w(1, p-1), w(p/2-1, p-1), w(p/2, p-1), w(p-2, p-1), w(p-1, p-1),
		w(524287, 1048573), w(524286, 1048573), w(8*95325, 11*95325), w(400000, 1000000),
	}
}

// wrong are weights that may not be.
func wrong() []api.Weight {
	return []api.Weight{
		{}, w(0, 1), w(0, 7), w(0, api.MaxP), w(-1, 1), w(-3, 7), w(1, 0), w(1, -1), w(-1, -1), w(-7, -3), w(0, -1),
		w(2, 1), w(8, 7), w(api.MaxP, api.MaxP-1), w(api.MaxP+1, api.MaxP),
		w(1, api.MaxP+1), w(api.MaxP, api.MaxP+1), w(api.MaxP+1, api.MaxP+1), w(1, most), w(most, most), w(most, 1), w(1<<62, 1<<62),
		w(least, least), w(least, 1), w(1, least), w(least, most), w(most, least),
	}
}

// made is a stepper that there must be.
func made(t *testing.T, w api.Weight, offset int64) *Stepper {
	t.Helper()
	s := New(w, offset)
	if s == nil {
		t.Fatalf("New(%v, %d): nil", w, offset)
	}
	return s
}

// of is subtask i, as package window tells it.
func of(t *testing.T, w api.Weight, i, offset int64) api.Sub {
	t.Helper()
	sub, e := window.Of(w, i, offset)
	if e != api.OK {
		t.Fatalf("window.Of(%v, %d, %d): error %d", w, i, offset, e)
	}
	return sub
}

func same(t *testing.T, what string, got, want any) {
	t.Helper()
	if got != want {
		t.Fatalf("%s: %v, want %v", what, got, want)
	}
}

// far is a stepper that has told subtask i, put together by products instead of steps.
func far(t *testing.T, w api.Weight, i, offset int64) *Stepper {
	t.Helper()
	s := made(t, w, offset)
	s.told = i
	s.windows.whole, s.windows.rest = i*w.P/w.E, i*w.P%w.E
	switch {
	case !window.Heavy(w):
	case w.E == w.P:
		s.groups = s.windows
	default:
		free, ends := w.P-w.E, window.Deadline(w, i)
		// The least k whose k P / free is above ends - 1.
		k := (ends-1)*free/w.P + 1
		s.groups.whole, s.groups.rest = k*w.P/free, k*w.P%free
	}
	return s
}

// P5.1: the windows of some weights, written out as release, deadline, bit and group.
func TestExamples(t *testing.T) {
	for _, x := range []struct {
		w      api.Weight
		offset int64
		want   [][4]int64
	}{
		{w(2, 3), 0, [][4]int64{{0, 2, 1, 3}, {1, 3, 0, 3}, {3, 5, 1, 6}, {4, 6, 0, 6}}},
		{w(8, 11), 0, [][4]int64{{0, 2, 1, 4}, {1, 3, 1, 4}, {2, 5, 1, 8}, {4, 6, 1, 8}, {5, 7, 1, 8}, {6, 9, 1, 11}, {8, 10, 1, 11}, {9, 11, 0, 11}, {11, 13, 1, 15}}},
		{w(16, 22), 0, [][4]int64{{0, 2, 1, 4}, {1, 3, 1, 4}, {2, 5, 1, 8}, {4, 6, 1, 8}, {5, 7, 1, 8}, {6, 9, 1, 11}, {8, 10, 1, 11}, {9, 11, 0, 11}, {11, 13, 1, 15}}},
		{w(8, 11), 100, [][4]int64{{100, 102, 1, 104}, {101, 103, 1, 104}, {102, 105, 1, 108}}},
		{w(2, 7), 0, [][4]int64{{0, 4, 1, 0}, {3, 7, 0, 0}, {7, 11, 1, 0}}},
		{w(2, 7), 10, [][4]int64{{10, 14, 1, 0}, {13, 17, 0, 0}, {17, 21, 1, 0}}},
		{w(1, 1), 0, [][4]int64{{0, 1, 0, 1}, {1, 2, 0, 2}, {2, 3, 0, 3}}},
		{w(3, 3), 5, [][4]int64{{5, 6, 0, 6}, {6, 7, 0, 7}, {7, 8, 0, 8}}},
		{w(1, 2), 0, [][4]int64{{0, 2, 0, 2}, {2, 4, 0, 4}}},
		{w(3, 6), 1, [][4]int64{{1, 3, 0, 3}, {3, 5, 0, 5}}},
		{w(6, 11), 0, [][4]int64{{0, 2, 1, 3}, {1, 4, 1, 5}, {3, 6, 1, 7}, {5, 8, 1, 9}, {7, 10, 1, 11}, {9, 11, 0, 11}, {11, 13, 1, 14}}},
		{w(5, 11), 0, [][4]int64{{0, 3, 1, 0}, {2, 5, 1, 0}, {4, 7, 1, 0}, {6, 9, 1, 0}, {8, 11, 0, 0}, {11, 14, 1, 0}}},
		{w(1, api.MaxP), 0, [][4]int64{{0, api.MaxP, 0, 0}, {api.MaxP, 2 * api.MaxP, 0, 0}}},
		{w(api.MaxP-1, api.MaxP), 0, [][4]int64{{0, 2, 1, api.MaxP}, {1, 3, 1, api.MaxP}}},
		{w(1, 1), late, [][4]int64{{late, late + 1, 0, late + 1}, {late + 1, late + 2, 0, late + 2}}},
		{w(2, 7), late, [][4]int64{{late, late + 4, 1, 0}, {late + 3, late + 7, 0, 0}}},
	} {
		s := made(t, x.w, x.offset)
		for n, row := range x.want {
			want := api.Sub{Index: int64(n) + 1, Release: row[0], Deadline: row[1], Bit: int(row[2]), Group: row[3]}
			if got := s.Next(); got != want {
				t.Errorf("%v at %d: %v, want %v", x.w, x.offset, got, want)
			}
		}
	}
}

// P5.1: offsets that may be, and those that may not.
func TestOffsets(t *testing.T) {
	for _, x := range []api.Weight{w(1, 1), w(2, 3), w(2, 7), w(1, api.MaxP), w(api.MaxP-1, api.MaxP), w(api.MaxP, api.MaxP)} {
		for _, offset := range []int64{0, 1, top, late - 1, late} {
			s := made(t, x, offset)
			for i := int64(1); i <= 5; i++ {
				same(t, "Next", s.Next(), of(t, x, i, offset))
			}
		}
		for _, offset := range []int64{-1, -2, -late, least, least + 1, late + 1, late + 2, 1 << 62, most - 1, most} {
			if s := New(x, offset); s != nil {
				t.Errorf("New(%v, %d): %v, want nil", x, offset, *s)
			}
		}
	}
}

// P5.1: weights that may not be.
func TestWrongWeights(t *testing.T) {
	for _, x := range wrong() {
		for _, offset := range []int64{0, 1, late, late + 1, -1, least, most} {
			if s := New(x, offset); s != nil {
				t.Errorf("New(%v, %d): %v, want nil", x, offset, *s)
			}
		}
	}
}

// steps goes so many steps on, and holds each against package window; ahead of each it peeks twice.
func steps(t *testing.T, w api.Weight, offset, many int64) {
	t.Helper()
	s := made(t, w, offset)
	for i := int64(1); i <= many; i++ {
		want := of(t, w, i, offset)
		if a, b, c := s.Peek(), s.Peek(), s.Next(); a != want || b != want || c != want {
			t.Fatalf("%v at %d: Peek, Peek, Next: %v, %v, %v, want %v", w, offset, a, b, c, want)
		}
	}
}

// P5.1: several periods of small weights, and many steps of great ones.
func TestSteps(t *testing.T) {
	for _, x := range small() {
		steps(t, x, 0, 5*x.E+3)
		steps(t, x, late, 2*x.E+1)
	}
	for _, x := range great() {
		steps(t, x, 0, 3000)
		steps(t, x, 1<<50+1, 100)
	}
}

// P5.1: great periods, whole, and what follows them.
func TestStepsOfWholePeriods(t *testing.T) {
	for _, x := range []api.Weight{w(api.MaxP, api.MaxP), w(api.MaxP-1, api.MaxP), w(api.MaxP/2, api.MaxP), w(api.MaxP/2-1, api.MaxP-1), w(api.MaxP/2, api.MaxP-1), w(699051, api.MaxP)} {
		s := made(t, x, 7)
		for i := int64(1); i <= 2*x.E+5; i++ {
			if got, want := s.Next(), of(t, x, i, 7); got != want {
				t.Fatalf("%v: %v, want %v", x, got, want)
			}
		}
	}
}

// P5.1: Peek changes nothing, and tells what Next will.
func TestPeek(t *testing.T) {
	s := made(t, w(8, 11), 20)
	first, second := of(t, w(8, 11), 1, 20), of(t, w(8, 11), 2, 20)
	same(t, "Peek", s.Peek(), first)
	same(t, "Peek again", s.Peek(), first)
	same(t, "Next behind Peek", s.Next(), first)
	same(t, "Peek behind Next", s.Peek(), second)
	same(t, "Peek behind Next again", s.Peek(), second)
	before := *s
	s.Peek()
	same(t, "what Peek leaves", *s, before)
	same(t, "Next", s.Next(), second)
	same(t, "Next without Peek", s.Next(), of(t, w(8, 11), 3, 20))
}

// P5.1: the last of all subtasks, and what is behind it.
func TestBehindTheLast(t *testing.T) {
	for _, x := range append(small(), great()...) {
		for _, offset := range []int64{0, 1, late} {
			s := far(t, x, top-40, offset)
			for i := int64(top - 39); i <= top; i++ {
				want := of(t, x, i, offset)
				same(t, "Peek", s.Peek(), want)
				same(t, "Next", s.Next(), want)
			}
			for range 3 {
				same(t, "Peek behind the last", s.Peek(), api.Sub{})
				same(t, "Next behind the last", s.Next(), api.Sub{})
			}
			same(t, "Shift by 0 behind the last", s.Shift(0), true)
			same(t, "Shift behind the last", s.Shift(late-offset), true)
			same(t, "Shift too far behind the last", s.Shift(1), false)
			same(t, "Next behind that", s.Next(), api.Sub{})
			same(t, "Copy behind the last", s.Copy().Next(), api.Sub{})
		}
	}
}

// P5.1: subtasks of all numbers, steps on from where a stepper was put; and that steps lead just there.
func TestFarSteps(t *testing.T) {
	for _, x := range append(small(), great()...) {
		s := made(t, x, 3)
		for i := int64(1); i <= 100; i++ {
			s.Next()
			same(t, "a stepper by steps", *s, *far(t, x, i, 3))
		}
		for bit := 7; bit < 40; bit++ {
			s := far(t, x, 1<<bit-3, 3)
			for i := int64(1<<bit - 2); i <= 1<<bit+3; i++ {
				same(t, "Next", s.Next(), of(t, x, i, 3))
			}
		}
	}
}

// P5.2: shifts ahead of the first subtask, between others, and one behind another.
func TestShift(t *testing.T) {
	for _, x := range append(small(), great()...) {
		s, offset := made(t, x, 2), int64(2)
		for i, slots := range []int64{0, 1, 0, 5, 100, 1 << 40, 0, 3, 1 << 60} {
			same(t, "Shift", s.Shift(slots), true)
			offset += slots
			want := of(t, x, int64(i)+1, offset)
			same(t, "Peek", s.Peek(), want)
			same(t, "Next", s.Next(), want)
		}
		same(t, "Shift", s.Shift(4), true)
		same(t, "Shift again", s.Shift(5), true)
		same(t, "Next", s.Next(), of(t, x, 10, offset+9))
		same(t, "Next without Shift", s.Next(), of(t, x, 11, offset+9))
	}
}

// P5.2: the offset's end: just there, and above it.
func TestShiftAtItsEnd(t *testing.T) {
	for _, x := range []struct {
		offset, slots int64
		want          bool
	}{
		{0, 0, true}, {0, late - 1, true}, {0, late, true}, {0, late + 1, false}, {0, 1 << 62, false}, {0, most, false},
		{1, late - 2, true}, {1, late - 1, true}, {1, late, false}, {1, most, false}, {1, most - 1, false},
		{late - 1, 0, true}, {late - 1, 1, true}, {late - 1, 2, false}, {late - 1, most, false},
		{late, 0, true}, {late, 1, false}, {late, late, false}, {late, 1 << 62, false}, {late, most, false}, {late, most - late + 1, false},
		{0, -1, false}, {10, -1, false}, {10, -10, false}, {late, -1, false}, {late, -late, false}, {0, least, false}, {late, least, false}, {late, least + 1, false},
	} {
		for _, weight := range []api.Weight{w(1, 1), w(8, 11), w(2, 7), w(1, api.MaxP)} {
			s := made(t, weight, x.offset)
			s.Next()
			offset := x.offset
			if x.want {
				offset += x.slots
			}
			if got := s.Shift(x.slots); got != x.want {
				t.Errorf("Shift(%d) at %d: %t, want %t", x.slots, x.offset, got, x.want)
			}
			same(t, "Peek", s.Peek(), of(t, weight, 2, offset))
			same(t, "Next", s.Next(), of(t, weight, 2, offset))
			same(t, "Shift to the end", s.Shift(late-offset), true)
			same(t, "Shift behind the end", s.Shift(1), false)
			same(t, "Next", s.Next(), of(t, weight, 3, late))
		}
	}
}

// P5.2: a copy stands where it stands; steps and shifts of either are its own.
func TestCopy(t *testing.T) {
	for _, x := range append(small(), great()...) {
		s := made(t, x, 4)
		first := s.Copy()
		for range 7 {
			s.Next()
		}
		s.Shift(10)
		c := s.Copy()
		if c == s || first == s {
			t.Fatal("a copy is the stepper itself")
		}
		same(t, "Peek of a copy", c.Peek(), of(t, x, 8, 14))
		same(t, "Next of it", s.Next(), of(t, x, 8, 14))
		same(t, "Shift of it", s.Shift(100), true)
		same(t, "Next of it", s.Next(), of(t, x, 9, 114))
		same(t, "Next of a copy", c.Next(), of(t, x, 8, 14))
		same(t, "Shift of a copy", c.Shift(6), true)
		same(t, "Next of it", s.Next(), of(t, x, 10, 114))
		same(t, "Next of a copy", c.Next(), of(t, x, 9, 20))
		same(t, "Shift of a copy that fails", c.Shift(late), false)
		same(t, "Next of a copy's copy", c.Copy().Next(), of(t, x, 10, 20))
		same(t, "Next of a copy", c.Next(), of(t, x, 10, 20))
		same(t, "Next of the first copy", first.Next(), of(t, x, 1, 4))
		same(t, "Next of it", s.Next(), of(t, x, 11, 114))
	}
}

// What a nil stepper tells: P5.1, P5.2 and P1.
func TestNil(t *testing.T) {
	var s *Stepper
	same(t, "Next", s.Next(), api.Sub{})
	same(t, "Peek", s.Peek(), api.Sub{})
	for _, slots := range []int64{0, 1, -1, late, late + 1, most, least} {
		same(t, "Shift", s.Shift(slots), false)
	}
	if c := s.Copy(); c != nil {
		t.Errorf("Copy: %v, want nil", *c)
	}
}

// What a zero stepper tells, its copies too: P5.1, P5.2 and P1.
func TestZero(t *testing.T) {
	s := &Stepper{}
	for range 3 {
		same(t, "Next", s.Next(), api.Sub{})
		same(t, "Peek", s.Peek(), api.Sub{})
		for _, slots := range []int64{0, 1, -1, late, late + 1, most, least} {
			same(t, "Shift", s.Shift(slots), false)
		}
		same(t, "it", *s, Stepper{})
		c := s.Copy()
		if c == nil || c == s {
			t.Fatal("Copy: nil, or the stepper itself")
		}
		same(t, "a copy", *c, Stepper{})
		s = c
	}
}

// R4: steppers know nothing of one another, and the same calls have the same answers.
func TestManyAtOnce(t *testing.T) {
	weights := append(small(), great()...)
	var l []*Stepper
	for _, x := range weights {
		l = append(l, made(t, x, 0), made(t, x, 9))
	}
	for i := int64(1); i <= 30; i++ {
		for n, x := range weights {
			same(t, "Next", l[2*n].Next(), of(t, x, i, 0))
			same(t, "Next", l[2*n+1].Next(), of(t, x, i, 9))
		}
	}
}
