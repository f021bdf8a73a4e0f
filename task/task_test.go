package task

import (
	"math"
	"math/rand"
	"slices"
	"testing"

	"regatta/api"
	"regatta/window"
)

const (
	end   = 1 << 40 // the last slot at which a task may begin, and subtasks arrive
	many  = 64      // so many may wait
	most  = math.MaxInt64
	least = math.MinInt64
)

func w(e, p int64) api.Weight { return api.Weight{E: e, P: p} }

// some are weights that may be: light ones, heavy ones, 1, small and great ones, some of them not in lowest terms.
func some() []api.Weight {
	const p = api.MaxP
	return []api.Weight{
		w(1, 1), w(5, 5), w(p, p), w(1, 2), w(2, 3), w(8, 11), w(16, 22), w(6, 11), w(9, 10), w(p-1, p), w(p/2, p), w(p/2+1, p),
		w(1, 3), w(2, 5), w(2, 7), w(5, 11), w(1, 10), w(3, 30), w(1, p), w(2, p), w(p/2-1, p), w(349525, p), w(524286, 1048573),
	}
}

// wrong are weights that may not be.
func wrong() []api.Weight {
	return []api.Weight{
		{}, w(0, 1), w(0, 7), w(0, api.MaxP), w(-1, 1), w(-1, 7), w(-3, 7), w(1, 0), w(1, -1), w(-1, -1), w(-7, -3), w(0, -1), w(-1, 0),
		w(2, 1), w(8, 7), w(api.MaxP, api.MaxP-1), w(api.MaxP+1, api.MaxP),
		w(1, api.MaxP+1), w(api.MaxP, api.MaxP+1), w(api.MaxP+1, api.MaxP+1), w(1, most), w(most, most), w(most, 1), w(1<<62, 1<<62),
		w(least, least), w(least, 1), w(1, least), w(least, most), w(most, least),
	}
}

// slots are those at which something may begin, or arrive, and noSlots those at which it may not.
func slots() []int64 { return []int64{0, 1, 2, 1000, 1<<32 - 1, 1 << 32, end - 1, end} }
func noSlots() []int64 {
	return []int64{-1, -2, -end, least, least + 1, end + 1, end + 2, 1 << 41, 1 << 62, most - 1, most}
}

// noNumbers are those of which no subtasks can arrive.
func noNumbers() []int { return []int{0, -1, -64, many + 1, many + 2, 1 << 32, most, least} }

func same(t *testing.T, what string, got, want any) {
	t.Helper()
	if got != want {
		t.Fatalf("%s: %v, want %v", what, got, want)
	}
}

// made is a task that there must be.
func made(t *testing.T, w api.Weight, at int64, early bool) *Task {
	t.Helper()
	x := New(w, at, early)
	if x == nil {
		t.Fatalf("New(%v, %d, %t): nil", w, at, early)
	}
	return x
}

// arrive lets n arrive at at, which must be no error.
func arrive(t *testing.T, x *Task, at int64, n int) {
	t.Helper()
	same(t, "Arrive", x.Arrive(at, n), api.OK)
}

// of is subtask i, as package window tells it.
func of(t *testing.T, w api.Weight, i, offset int64) api.Sub {
	t.Helper()
	sub, e := window.Of(w, i, offset)
	if e != api.OK {
		t.Fatalf("window.Of(%v, %d, %d): error %d", w, i, offset, e)
	}
	return sub
}

// told is a subtask, and if there is one.
type told struct {
	sub api.Sub
	ok  bool
}

func tell(sub api.Sub, ok bool) told { return told{sub, ok} }

// nothing is what is told where there is none.
var nothing = told{}

// look is how a task stands, by all that it tells.
type look struct {
	head, last         told
	when               int64
	some               bool
	waits              int
	done               int64
	weight             api.Weight
	before, at, behind told // Ready, one slot ahead of the head's release, at it, one behind it
	below, above       told // Ready of the least slot, and of the greatest
}

func stands(x *Task) look {
	l := look{head: tell(x.Head()), last: tell(x.Last()), waits: x.Waits(), done: x.Done(), weight: x.Weight()}
	l.when, l.some = x.When()
	from := l.head.sub.Release
	l.before, l.at, l.behind = tell(x.Ready(from-1)), tell(x.Ready(from)), tell(x.Ready(from+1))
	l.below, l.above = tell(x.Ready(least)), tell(x.Ready(most))
	return l
}

// plain is a task as the chapter tells it, by package window alone: all that waits, and all that ran.
type plain struct {
	w          api.Weight
	early, cut bool
	offset     int64
	came       int64
	waits, ran []api.Sub
}

func (p *plain) arrive(t *testing.T, at int64, n int) api.Errno {
	switch {
	case at < 0 || at > end || n < 1 || n > many:
		return api.ErrArg
	case p.cut:
		return api.ErrState
	case len(p.waits)+n > many:
		return api.ErrFull
	}
	for range n {
		p.came++
		p.offset = max(p.offset, at-window.Release(p.w, p.came))
		p.waits = append(p.waits, of(t, p.w, p.came, p.offset))
	}
	return api.OK
}

func (p *plain) run() told {
	if len(p.waits) == 0 {
		return nothing
	}
	first := p.waits[0]
	p.waits = slices.Clone(p.waits[1:])
	p.ran = append(p.ran, first)
	return told{first, true}
}

func (p *plain) cutAt(at int64) int {
	var stay []api.Sub
	for _, s := range p.waits {
		if s.Release <= at {
			stay = append(stay, s)
		}
	}
	n := len(p.waits) - len(stay)
	p.waits, p.cut = stay, true
	return n
}

func (p *plain) stands() look {
	l := look{waits: len(p.waits), done: int64(len(p.ran)), weight: p.w}
	for _, s := range slices.Concat(p.ran, p.waits) {
		l.last = told{s, true}
	}
	if len(p.waits) == 0 {
		return l
	}
	l.head, l.some = told{p.waits[0], true}, true
	l.at, l.behind, l.above = l.head, l.head, l.head
	if p.early {
		l.before, l.below = l.head, l.head
	} else {
		l.when = l.head.sub.Release
	}
	return l
}

// P10.1: the chapter's example, and others, written out: at which slots one arrives each, and the windows of them.
func TestExamples(t *testing.T) {
	for _, x := range []struct {
		w    api.Weight
		at   int64
		come []int64
		want []api.Sub
	}{
		{w(1, 3), 0, []int64{0, 7}, []api.Sub{{Index: 1, Release: 0, Deadline: 3}, {Index: 2, Release: 7, Deadline: 10}}},
		{w(1, 3), 0, []int64{0, 3}, []api.Sub{{Index: 1, Release: 0, Deadline: 3}, {Index: 2, Release: 3, Deadline: 6}}},
		{w(1, 3), 0, []int64{0, 4}, []api.Sub{{Index: 1, Release: 0, Deadline: 3}, {Index: 2, Release: 4, Deadline: 7}}},
		{w(1, 3), 0, []int64{0, 2}, []api.Sub{{Index: 1, Release: 0, Deadline: 3}, {Index: 2, Release: 3, Deadline: 6}}},
		{w(1, 3), 5, []int64{0, 0, 0}, []api.Sub{{Index: 1, Release: 5, Deadline: 8}, {Index: 2, Release: 8, Deadline: 11}, {Index: 3, Release: 11, Deadline: 14}}},
		{w(1, 1), 0, []int64{0, 0, 5, 5}, []api.Sub{{Index: 1, Release: 0, Deadline: 1, Group: 1}, {Index: 2, Release: 1, Deadline: 2, Group: 2}, {Index: 3, Release: 5, Deadline: 6, Group: 6}, {Index: 4, Release: 6, Deadline: 7, Group: 7}}},
		{w(8, 11), 100, []int64{100, 100, 104}, []api.Sub{{Index: 1, Release: 100, Deadline: 102, Bit: 1, Group: 104}, {Index: 2, Release: 101, Deadline: 103, Bit: 1, Group: 104}, {Index: 3, Release: 104, Deadline: 107, Bit: 1, Group: 110}}},
		{w(2, 7), 0, []int64{1, 0, 9, 20}, []api.Sub{{Index: 1, Release: 1, Deadline: 5, Bit: 1}, {Index: 2, Release: 4, Deadline: 8}, {Index: 3, Release: 9, Deadline: 13, Bit: 1}, {Index: 4, Release: 20, Deadline: 24}}},
	} {
		for _, early := range []bool{false, true} {
			task := made(t, x.w, x.at, early)
			for _, at := range x.come {
				arrive(t, task, at, 1)
			}
			for n, sub := range x.want {
				same(t, "Waits", task.Waits(), len(x.want)-n)
				if got := tell(task.Run()); got != (told{sub, true}) {
					t.Errorf("%v at %d, %v: %v, want %v", x.w, x.at, x.come, got, sub)
				}
			}
			same(t, "Run behind the last", tell(task.Run()), nothing)
		}
	}
}

// P10.1: weights that may not be, at slots that may be, and that may not.
func TestWrongWeights(t *testing.T) {
	for _, x := range wrong() {
		for _, at := range append(slots(), noSlots()...) {
			if New(x, at, false) != nil || New(x, at, true) != nil {
				t.Errorf("New(%v, %d): want nil", x, at)
			}
		}
	}
}

// P10.1, P10.3: tasks that were made, at all slots that may be, and at some that may not: nothing waits yet, and the first window begins there.
func TestNew(t *testing.T) {
	for _, x := range some() {
		for _, early := range []bool{false, true} {
			for _, at := range noSlots() {
				if New(x, at, early) != nil {
					t.Errorf("New(%v, %d, %t): want nil", x, at, early)
				}
			}
			for _, at := range slots() {
				task := made(t, x, at, early)
				same(t, "a new one", stands(task), look{weight: x})
				arrive(t, task, 0, 2)
				same(t, "the first", tell(task.Run()), told{of(t, x, 1, at), true})
				same(t, "the second", tell(task.Run()), told{of(t, x, 2, at), true})
			}
		}
	}
}

// P10.1: at which slots, and how many, may arrive; what then waits, and that nothing does where it is an error.
func TestArrive(t *testing.T) {
	for _, x := range some() {
		for _, at := range slots() {
			for _, n := range []int{1, 2, many - 1, many} {
				task, p := made(t, x, 7, false), &plain{w: x, offset: 7}
				same(t, "Arrive", task.Arrive(at, n), p.arrive(t, at, n))
				same(t, "Waits", task.Waits(), n)
				for range n {
					same(t, "Run", tell(task.Run()), p.run())
				}
			}
			for _, n := range noNumbers() {
				refused(t, made(t, x, 7, false), at, n, api.ErrArg)
			}
		}
		for _, at := range noSlots() {
			for _, n := range append(noNumbers(), 1, 2, many-1, many) {
				refused(t, made(t, x, 7, false), at, n, api.ErrArg)
			}
		}
	}
}

// refused lets n arrive at at, which must be that error, and change nothing.
func refused(t *testing.T, x *Task, at int64, n int, want api.Errno) {
	t.Helper()
	before, steps := stands(x), *x.steps
	if got := x.Arrive(at, n); got != want {
		t.Fatalf("Arrive(%d, %d): %d, want %d", at, n, got, want)
	}
	same(t, "what a refused Arrive leaves", stands(x), before)
	same(t, "what comes behind a refused Arrive", *x.steps, steps)
}

// P10.1: all ways in which two lots come to 64, or to more.
func TestFull(t *testing.T) {
	for a := 1; a <= many; a++ {
		for b := 1; b <= many; b++ {
			x := made(t, w(2, 3), 0, false)
			arrive(t, x, 0, a)
			if a+b > many {
				refused(t, x, 0, b, api.ErrFull)
				// Late ones, too: what is refused shifts nothing.
				refused(t, x, end, b, api.ErrFull)
				continue
			}
			arrive(t, x, 0, b)
			same(t, "Waits", x.Waits(), a+b)
		}
	}
}

// P10.1: 64 that wait and one more; one that runs makes room for one, one that is cut for none.
func TestFullAndRunAndCut(t *testing.T) {
	for _, early := range []bool{false, true} {
		x := made(t, w(2, 3), 5, early)
		arrive(t, x, 0, many)
		refused(t, x, 0, 1, api.ErrFull)
		for i := int64(1); i <= 3; i++ {
			same(t, "Run", tell(x.Run()), told{of(t, w(2, 3), i, 5), true})
			refused(t, x, 0, 2, api.ErrFull)
			arrive(t, x, 0, 1)
			same(t, "Last", tell(x.Last()), told{of(t, w(2, 3), many+i, 5), true})
			refused(t, x, 0, 1, api.ErrFull)
		}
		same(t, "Cut of all but the first", x.Cut(of(t, w(2, 3), 4, 5).Release), many-1)
		refused(t, x, 0, 1, api.ErrState)
		same(t, "Cut of all", x.Cut(0), 1)
		refused(t, x, 0, 1, api.ErrState)
	}
}

// P10.1: which error is told, where more than one would fit.
func TestErrors(t *testing.T) {
	for _, cut := range []bool{false, true} {
		for _, full := range []bool{false, true} {
			x := made(t, w(1, 2), 3, false)
			if full {
				arrive(t, x, 3, many)
			}
			if cut {
				same(t, "Cut", x.Cut(most), 0)
			}
			for _, at := range append(slots(), noSlots()...) {
				for _, n := range noNumbers() {
					refused(t, x, at, n, api.ErrArg)
				}
			}
			for _, at := range noSlots() {
				refused(t, x, at, 1, api.ErrArg)
				refused(t, x, at, many, api.ErrArg)
			}
			for _, at := range slots() {
				switch {
				case cut:
					refused(t, x, at, 1, api.ErrState)
					refused(t, x, at, many, api.ErrState)
				case full:
					refused(t, x, at, 1, api.ErrFull)
					refused(t, x, at, many, api.ErrFull)
				}
			}
		}
	}
}

// P10.1: what arrives behind an Arrive that was refused is what would have arrived without it.
func TestRefusedChangesNothing(t *testing.T) {
	for _, x := range some() {
		task := made(t, x, 2, false)
		arrive(t, task, 0, many)
		for i := int64(1); i <= many; i++ {
			refused(t, task, 1<<39, 1, api.ErrFull)
			refused(t, task, -1, 1, api.ErrArg)
			refused(t, task, 1<<39, 0, api.ErrArg)
			refused(t, task, 1<<39, many+1, api.ErrArg)
			same(t, "Run", tell(task.Run()), told{of(t, x, i, 2), true})
			arrive(t, task, 0, 1)
			same(t, "Last", tell(task.Last()), told{of(t, x, many+i, 2), true})
		}
	}
}

// P10.1: subtasks that arrive far ahead of their release, one slot ahead, at it, one late, far later; and what comes behind them.
func TestLate(t *testing.T) {
	for _, x := range some() {
		for _, late := range []int64{-1 << 30, -2, -1, 0, 1, 2, 1000, 1 << 39} {
			task, offset := made(t, x, 11, false), int64(11)
			arrive(t, task, 0, 3)
			at := max(0, of(t, x, 4, offset).Release+late)
			arrive(t, task, at, 3)
			offset += max(0, late)
			for i := int64(1); i <= 3; i++ {
				same(t, "ahead of the late one", tell(task.Run()), told{of(t, x, i, 11), true})
			}
			same(t, "the late one", tell(task.Run()), told{of(t, x, 4, offset), true})
			if late >= 0 {
				same(t, "its release", of(t, x, 4, offset).Release, at)
			}
			same(t, "behind the late one", tell(task.Run()), told{of(t, x, 5, offset), true})
			same(t, "behind that", tell(task.Run()), told{of(t, x, 6, offset), true})
			arrive(t, task, 0, 1)
			same(t, "another lot behind the late one", tell(task.Run()), told{of(t, x, 7, offset), true})
		}
	}
}

// P10.1: those that are late twice, the first of all among them, are shifted by both.
func TestLateTwice(t *testing.T) {
	for _, x := range some() {
		task := made(t, x, 3, true)
		offset := int64(3)
		for i := int64(1); i <= 200; i++ {
			late := i * 7919 % 13
			at := of(t, x, i, offset).Release + late
			arrive(t, task, at, 1)
			offset += late
			sub := of(t, x, i, offset)
			same(t, "its release", sub.Release, at)
			same(t, "Run", tell(task.Run()), told{sub, true})
		}
	}
	// The first one, late, and the second one behind it, late again; the third one is in time, just at its release.
	task := made(t, w(2, 7), 10, false)
	arrive(t, task, 12, 1)
	arrive(t, task, 16, 1)
	arrive(t, task, 20, 1)
	same(t, "the first", tell(task.Run()), told{api.Sub{Index: 1, Release: 12, Deadline: 16, Bit: 1}, true})
	same(t, "the second", tell(task.Run()), told{api.Sub{Index: 2, Release: 16, Deadline: 20}, true})
	same(t, "the third", tell(task.Run()), told{api.Sub{Index: 3, Release: 20, Deadline: 24, Bit: 1}, true})
}

// P10.1: the last slots at which any can arrive, again and again.
func TestLateAtTheEnd(t *testing.T) {
	for n, x := range slices.Concat(some(), some()) {
		early := n < len(some())
		task, p := made(t, x, end, early), &plain{w: x, early: early, offset: end}
		for n := range 300 {
			lot := 1 + n%3
			same(t, "Arrive", task.Arrive(end-int64(n%2), lot), p.arrive(t, end-int64(n%2), lot))
			same(t, "how it stands", stands(task), p.stands())
			for range lot {
				same(t, "Run", tell(task.Run()), p.run())
			}
		}
		task = made(t, x, 0, early)
		arrive(t, task, 0, 1)
		arrive(t, task, end, 2)
		shift := end - of(t, x, 2, 0).Release
		for i, offset := range []int64{0, shift, shift} {
			ready(t, task, early, of(t, x, int64(i)+1, offset))
			same(t, "Run", tell(task.Run()), told{of(t, x, int64(i)+1, offset), true})
		}
	}
}

// P10.2: early tasks and others, at slots around the release, and far from it; When of both.
func TestReady(t *testing.T) {
	for _, x := range some() {
		for _, begin := range []int64{0, 1, 9, end} {
			for _, early := range []bool{false, true} {
				task := made(t, x, begin, early)
				arrive(t, task, 0, many)
				for i := int64(1); i <= many; i++ {
					sub := of(t, x, i, begin)
					ready(t, task, early, sub)
					same(t, "Run", tell(task.Run()), told{sub, true})
				}
			}
		}
	}
}

// ready holds what x tells of its head, which must be sub, against what it is.
func ready(t *testing.T, x *Task, early bool, sub api.Sub) {
	t.Helper()
	from, ahead := sub.Release, nothing
	if early {
		from, ahead = 0, told{sub, true}
	}
	same(t, "Head", tell(x.Head()), told{sub, true})
	when, ok := x.When()
	same(t, "When", when, from)
	same(t, "When is some", ok, true)
	for _, at := range []int64{least, -end, -1, sub.Release - 2, sub.Release - 1} {
		same(t, "Ready ahead of its release", tell(x.Ready(at)), ahead)
	}
	for _, at := range []int64{sub.Release, sub.Release + 1, sub.Release + end, most} {
		same(t, "Ready from its release on", tell(x.Ready(at)), told{sub, true})
	}
	same(t, "Head behind all that was asked", tell(x.Head()), told{sub, true})
}

// P10.2: a late one is ready where it was shifted to, not where it would have been.
func TestReadyWhereLate(t *testing.T) {
	for _, early := range []bool{false, true} {
		task := made(t, w(2, 5), 10, early)
		arrive(t, task, 30, 2)
		ready(t, task, early, api.Sub{Index: 1, Release: 30, Deadline: 33, Bit: 1})
		task.Run()
		ready(t, task, early, api.Sub{Index: 2, Release: 32, Deadline: 35})
	}
}

// P10.2: what is told where nothing ever came, and behind the last run.
func TestNothingWaits(t *testing.T) {
	for _, x := range some() {
		for _, early := range []bool{false, true} {
			task := made(t, x, 4, early)
			for range 3 {
				same(t, "Run where nothing ever came", tell(task.Run()), nothing)
				same(t, "where nothing ever came", stands(task), look{weight: x})
			}
			arrive(t, task, 0, 5)
			for i := int64(1); i <= 5; i++ {
				same(t, "Last", tell(task.Last()), told{of(t, x, 5, 4), true})
				same(t, "Run", tell(task.Run()), told{of(t, x, i, 4), true})
				same(t, "Done", task.Done(), i)
			}
			for range 3 {
				same(t, "Run behind the last", tell(task.Run()), nothing)
				same(t, "behind the last run", stands(task), look{last: told{of(t, x, 5, 4), true}, done: 5, weight: x})
			}
			arrive(t, task, 0, 1)
			ready(t, task, early, of(t, x, 6, 4))
			same(t, "Last", tell(task.Last()), told{of(t, x, 6, 4), true})
		}
	}
}

// P10.2, P10.3: the last one, where what waited was cut, all of it or a part, behind a run and ahead of any.
func TestLastBehindCut(t *testing.T) {
	x := made(t, w(1, 3), 0, false)
	arrive(t, x, 0, 4)
	same(t, "Cut of two", x.Cut(5), 2)
	same(t, "Last, of those that wait still", tell(x.Last()), told{of(t, w(1, 3), 2, 0), true})
	x.Run()
	same(t, "Last, behind a run", tell(x.Last()), told{of(t, w(1, 3), 2, 0), true})
	same(t, "Cut of one", x.Cut(2), 1)
	same(t, "Last, of those that ran", tell(x.Last()), told{of(t, w(1, 3), 1, 0), true})
	same(t, "all else", stands(x), look{last: told{of(t, w(1, 3), 1, 0), true}, done: 1, weight: w(1, 3)})

	x = made(t, w(1, 3), 6, true)
	arrive(t, x, 0, 4)
	same(t, "Cut of all", x.Cut(5), 4)
	same(t, "Last of none", stands(x), look{weight: w(1, 3)})
	same(t, "Run of none", tell(x.Run()), nothing)
}

// P10.3: a cut at each slot: ahead of all releases, one slot ahead of each, at each, behind all; early tasks, too.
func TestCut(t *testing.T) {
	for _, x := range some() {
		for i := int64(1); i <= many; i++ {
			for _, early := range []bool{false, true} {
				for _, c := range []struct {
					at   int64
					left int64
				}{{of(t, x, i, 9).Release - 1, i - 1}, {of(t, x, i, 9).Release, i}} {
					task := made(t, x, 9, early)
					arrive(t, task, 0, many)
					same(t, "Cut", task.Cut(c.at), int(many-c.left))
					same(t, "Waits", task.Waits(), int(c.left))
					same(t, "Done", task.Done(), int64(0))
					same(t, "the same Cut again", task.Cut(c.at), 0)
					for k := int64(1); k <= c.left; k++ {
						same(t, "Run", tell(task.Run()), told{of(t, x, k, 9), true})
					}
					same(t, "Run behind the last", tell(task.Run()), nothing)
				}
			}
		}
	}
}

// P10.3: cuts at the least slot and the greatest, with all released, and with none.
func TestCutOfAllOrNone(t *testing.T) {
	for _, early := range []bool{false, true} {
		for _, at := range []int64{least, -end, -1, 0, 8} {
			x := made(t, w(2, 3), 9, early)
			arrive(t, x, 0, many)
			same(t, "Cut where none is released", x.Cut(at), many)
			same(t, "how it stands", stands(x), look{weight: w(2, 3)})
			refused(t, x, 9, 1, api.ErrState)
		}
		for _, at := range []int64{of(t, w(2, 3), many, 9).Release, 1000, end, end + 1, most} {
			x := made(t, w(2, 3), 9, early)
			arrive(t, x, 0, many)
			before := stands(x)
			same(t, "Cut where all are released", x.Cut(at), 0)
			same(t, "how it stands", stands(x), before)
			refused(t, x, 9, 1, api.ErrState)
		}
	}
}

// P10.3: a cut where nothing waits: it is cut all the same.
func TestCutOfNothing(t *testing.T) {
	for _, at := range []int64{least, -1, 0, 9, end, end + 1, most} {
		x := made(t, w(2, 3), 9, false)
		same(t, "Cut where nothing ever came", x.Cut(at), 0)
		refused(t, x, 9, 1, api.ErrState)
		refused(t, x, 9, 0, api.ErrArg)
		same(t, "how it stands", stands(x), look{weight: w(2, 3)})

		x = made(t, w(2, 3), 9, false)
		arrive(t, x, 9, 1)
		x.Run()
		same(t, "Cut behind the last run", x.Cut(at), 0)
		refused(t, x, 9, many, api.ErrState)
		refused(t, x, -1, many, api.ErrArg)
		same(t, "how it stands", stands(x), look{last: told{of(t, w(2, 3), 1, 9), true}, done: 1, weight: w(2, 3)})
	}
}

// P10.3: it is cut again: at a greater slot nothing more, at a lesser one those that are above that.
func TestCutAgain(t *testing.T) {
	const first = 20
	for again := int64(0); again < 80; again++ {
		for _, runs := range []int{0, 1, 5} {
			x, p := made(t, w(2, 3), 9, false), &plain{w: w(2, 3), offset: 9}
			arrive(t, x, 0, many)
			p.arrive(t, 0, many)
			for range runs {
				same(t, "Run", tell(x.Run()), p.run())
			}
			same(t, "Cut", x.Cut(first), p.cutAt(first))
			same(t, "Cut again", x.Cut(again), p.cutAt(again))
			same(t, "how it stands", stands(x), p.stands())
			same(t, "Run", tell(x.Run()), p.run())
			same(t, "Cut at the first slot once more", x.Cut(first), 0)
			refused(t, x, again, 1, api.ErrState)
			same(t, "how it stands", stands(x), p.stands())
		}
	}
}

// P10.3: far more runs than may wait at once, and how many they were.
func TestManyRuns(t *testing.T) {
	for _, x := range some() {
		task := made(t, x, 1, false)
		var i int64
		for lot := range 100 {
			n := 1 + lot*37%many
			arrive(t, task, 0, n)
			for range n {
				i++
				same(t, "Run", tell(task.Run()), told{of(t, x, i, 1), true})
				same(t, "Done", task.Done(), i)
			}
		}
		same(t, "Cut", task.Cut(0), 0)
		same(t, "how it stands", stands(task), look{last: told{of(t, x, i, 1), true}, done: i, weight: x})
	}
}

// What a nil task tells: P10.1 to P10.3, and P1.
func TestNil(t *testing.T) {
	var x *Task
	for range 2 {
		for _, at := range append(slots(), noSlots()...) {
			for _, n := range append(noNumbers(), 1, 2, many) {
				same(t, "Arrive", x.Arrive(at, n), api.ErrArg)
			}
			same(t, "Ready", tell(x.Ready(at)), nothing)
			same(t, "Cut", x.Cut(at), 0)
		}
		same(t, "Run", tell(x.Run()), nothing)
		same(t, "how it stands", stands(x), look{})
	}
}

// P1: zero ones are not made, but no call of one panics.
func TestZero(t *testing.T) {
	x := &Task{}
	for _, at := range append(slots(), noSlots()...) {
		x.Arrive(at, 1)
		stands(x)
		x.Run()
	}
	x.Cut(0)
	stands(x)
}

// P10.1: as long as nothing is late, windows are those that package window tells.
func TestWindows(t *testing.T) {
	var l []api.Weight
	for p := int64(1); p <= 24; p++ {
		for e := int64(1); e <= p; e++ {
			l = append(l, w(e, p))
		}
	}
	for _, x := range append(l, some()...) {
		for _, begin := range []int64{0, 1, 1000003, 1 << 39, end} {
			task := made(t, x, begin, false)
			for i := int64(1); i <= 120; i++ {
				sub := of(t, x, i, begin)
				// Some of them at their release, others ahead of it.
				arrive(t, task, min(end, max(0, sub.Release-i%3)), 1)
				same(t, "Head", tell(task.Head()), told{sub, true})
				same(t, "Last", tell(task.Last()), told{sub, true})
				same(t, "Run", tell(task.Run()), told{sub, true})
			}
		}
	}
}

// R4: tasks know nothing of one another, those of the same weight neither: each is as it is alone.
func TestManyAtOnce(t *testing.T) {
	var l []*Task
	var ps []*plain
	for n, x := range slices.Concat(some(), some()) {
		l = append(l, made(t, x, int64(n%3), n%2 == 0))
		ps = append(ps, &plain{w: x, offset: int64(n % 3), early: n%2 == 0})
	}
	for step := range 60 {
		for n := range l {
			at, lot := int64(step*(n%5)), 1+(step+n)%3
			same(t, "Arrive", l[n].Arrive(at, lot), ps[n].arrive(t, at, lot))
			if (step+n)%2 == 0 {
				same(t, "Run", tell(l[n].Run()), ps[n].run())
			}
			if step > 40 && n == step {
				same(t, "Cut", l[n].Cut(at), ps[n].cutAt(at))
			}
		}
		for n := range l {
			same(t, "how it stands", stands(l[n]), ps[n].stands())
		}
	}
}

// R3: what was told stays as it was told, whatever is called behind it; and what a caller does with it changes no task.
func TestToldStays(t *testing.T) {
	x := made(t, w(8, 11), 3, false)
	arrive(t, x, 3, 5)
	head, _ := x.Head()
	ready, _ := x.Ready(3)
	last, _ := x.Last()
	weight := x.Weight()
	ran, _ := x.Run()
	first, fifth := of(t, w(8, 11), 1, 3), of(t, w(8, 11), 5, 3)
	arrive(t, x, 1000, many-4)
	x.Run()
	x.Cut(0)
	x.Run()
	for n, got := range []api.Sub{head, ready, ran} {
		if got != first {
			t.Errorf("%d: %v, want %v", n, got, first)
		}
	}
	same(t, "Last", last, fifth)
	same(t, "Weight", weight, w(8, 11))

	x = made(t, w(8, 11), 3, false)
	arrive(t, x, 3, 2)
	head, _ = x.Head()
	head.Release, head.Index = 77, 77
	weight = x.Weight()
	weight.E = 1
	same(t, "Head", tell(x.Head()), told{first, true})
	same(t, "Weight", x.Weight(), w(8, 11))
}

// act does the same with a task and a plain one, and holds what is told against one another.
type act func(t *testing.T, x *Task, p *plain)

func arrives(at int64, n int) act {
	return func(t *testing.T, x *Task, p *plain) {
		same(t, "Arrive", x.Arrive(at, n), p.arrive(t, at, n))
	}
}

func runs(t *testing.T, x *Task, p *plain) {
	same(t, "Run", tell(x.Run()), p.run())
}

func cuts(at int64) act {
	return func(t *testing.T, x *Task, p *plain) {
		same(t, "Cut", x.Cut(at), p.cutAt(at))
	}
}

// P10.1 to P10.3: all rows of five calls of nine, early and not, against a plain task.
func TestAllRows(t *testing.T) {
	acts := []act{arrives(0, 1), arrives(4, 2), arrives(9, 1), arrives(9, many), arrives(-1, 1), runs, cuts(0), cuts(4), cuts(9)}
	rows := 1
	for range 5 {
		rows *= len(acts)
	}
	for _, early := range []bool{false, true} {
		for row := range rows {
			x, p := made(t, w(2, 5), 1, early), &plain{w: w(2, 5), early: early, offset: 1}
			for left, n := row, 0; n < 5; n++ {
				acts[left%len(acts)](t, x, p)
				left /= len(acts)
				same(t, "how it stands", stands(x), p.stands())
			}
		}
	}
}

// P10.1 to P10.3: long rows of calls of all weights, now late, now in time, against a plain task.
func TestLongRows(t *testing.T) {
	draw := rand.New(rand.NewSource(10))
	for _, x := range some() {
		for row := range 40 {
			early, now := row%2 == 0, draw.Int63n(50)
			task, p := made(t, x, now, early), &plain{w: x, early: early, offset: now}
			for range 150 {
				now += draw.Int63n(4)
				switch draw.Intn(20) {
				case 0:
					now += draw.Int63n(1 + 3*x.P/x.E)
				case 1, 2:
					arrives(now, draw.Intn(many+2))(t, task, p)
				case 3, 4, 5, 6, 7:
					arrives(now, 1+draw.Intn(3))(t, task, p)
				case 8:
					if row > 20 && draw.Intn(8) == 0 {
						cuts(now+draw.Int63n(2*x.P)-x.P/2)(t, task, p)
					}
				default:
					runs(t, task, p)
				}
				same(t, "how it stands", stands(task), p.stands())
			}
		}
	}
}
