package calendar

import (
	"math"
	"reflect"
	"slices"
	"testing"

	"regatta/api"
)

const (
	last  = math.MaxInt64
	most  = math.MaxInt
	least = math.MinInt
)

func event(at int64, id, kind int) api.Event {
	return api.Event{At: at, ID: id, Kind: kind}
}

// ahead are the chapter's words: in the order of At, then of Kind, then of ID.
func ahead(a, b api.Event) bool {
	switch {
	case a.At != b.At:
		return a.At < b.At
	case a.Kind != b.Kind:
		return a.Kind < b.Kind
	}
	return a.ID < b.ID
}

// list is a plain one, in order: what a calendar is held against.
type list []api.Event

func (l list) place(id, kind int) int {
	return slices.IndexFunc(l, func(e api.Event) bool { return e.ID == id && e.Kind == kind })
}

func (l list) find(id, kind int) (api.Event, bool) {
	if i := l.place(id, kind); i >= 0 {
		return l[i], true
	}
	return api.Event{}, false
}

// with is l with e at its place.
func (l list) with(e api.Event) list {
	at := 0
	for at < len(l) && ahead(l[at], e) {
		at++
	}
	return slices.Insert(slices.Clone(l), at, e)
}

// both are a calendar and a plain list, of which the same is asked.
type both struct {
	t *testing.T
	c *Calendar
	l list
}

func pair(t *testing.T, l ...api.Event) *both {
	t.Helper()
	b := &both{t: t, c: New()}
	for _, e := range l {
		b.put(e)
	}
	return b
}

// told is what Put is to tell of e, clause by clause.
func (b *both) told(e api.Event) api.Errno {
	if e.ID < 0 || e.ID > 1023 || e.Kind < 0 || e.Kind > 7 || e.At < 0 {
		return api.ErrArg
	}
	if b.l.place(e.ID, e.Kind) >= 0 {
		return api.ErrThere
	}
	return api.OK
}

func (b *both) put(e api.Event) {
	b.t.Helper()
	want := b.told(e)
	if want == api.OK {
		b.l = b.l.with(e)
	}
	if got := b.c.Put(e); got != want {
		b.t.Fatalf("Put(%v): %v, want %v", e, got, want)
	}
}

func (b *both) drop(id, kind int) {
	b.t.Helper()
	want, there := b.l.find(id, kind)
	if there {
		at := b.l.place(id, kind)
		b.l = slices.Delete(b.l, at, at+1)
	}
	if e, ok := b.c.Drop(id, kind); e != want || ok != there {
		b.t.Fatalf("Drop(%d, %d): %v, %v, want %v, %v", id, kind, e, ok, want, there)
	}
}

func (b *both) due(at int64) {
	b.t.Helper()
	n := 0
	for n < len(b.l) && b.l[n].At <= at {
		n++
	}
	want := slices.Clone(b.l[:n])
	b.l = b.l[n:]
	if got := b.c.Due(at); !slices.Equal(got, []api.Event(want)) {
		b.t.Fatalf("Due(%d): %v, want %v", at, got, want)
	}
}

func (b *both) at(id, kind int) {
	b.t.Helper()
	want, there := b.l.find(id, kind)
	if at, ok := b.c.At(id, kind); at != want.At || ok != there {
		b.t.Fatalf("At(%d, %d): %d, %v, want %d, %v", id, kind, at, ok, want.At, there)
	}
}

// count holds Next and Len against the list.
func (b *both) count() {
	b.t.Helper()
	var want api.Event
	if len(b.l) > 0 {
		want = b.l[0]
	}
	if e, ok := b.c.Next(); e != want || ok != (len(b.l) > 0) {
		b.t.Fatalf("Next: %v, %v, want %v, %v", e, ok, want, len(b.l) > 0)
	}
	if n := b.c.Len(); n != len(b.l) {
		b.t.Fatalf("Len: %d, want %d", n, len(b.l))
	}
}

// look is count, and At of all that are there.
func (b *both) look() {
	b.t.Helper()
	b.count()
	for _, e := range b.l {
		b.at(e.ID, e.Kind)
	}
}

// end takes all that is there, and asks what was there of the calendar that has nothing.
func (b *both) end() {
	b.t.Helper()
	all := b.l
	b.due(last)
	b.empty(all)
}

// empty fails if there is anything, of all above all.
func (b *both) empty(all list) {
	b.t.Helper()
	if len(b.l) > 0 || b.c.Len() != 0 {
		b.t.Fatalf("Len: %d, want 0", b.c.Len())
	}
	b.count()
	for _, e := range all {
		b.at(e.ID, e.Kind)
		b.drop(e.ID, e.Kind)
	}
	for _, at := range []int64{-1 << 63, -1, 0, 1, last} {
		b.due(at)
	}
	b.count()
}

// orders calls f with all orders of l.
func orders(l []api.Event, f func([]api.Event)) {
	var set func(n int)
	l = slices.Clone(l)
	set = func(n int) {
		if n == len(l) {
			f(l)
			return
		}
		for i := n; i < len(l); i++ {
			l[n], l[i] = l[i], l[n]
			set(n + 1)
			l[n], l[i] = l[i], l[n]
		}
	}
	set(0)
}

// drawer tells numbers that look as if they were drawn, always the same ones.
func drawer() func(of int) int {
	x := uint64(1)
	return func(of int) int {
		x = x*6364136223846793005 + 1442695040888963407
		return int(x >> 33 % uint64(of))
	}
}

// some are eight events, in order: two IDs that are there twice, Ats that are there twice and three times.
func some() []api.Event {
	return []api.Event{event(0, 7, 3), event(4, 1, 0), event(4, 9, 0), event(4, 0, 1), event(9, 1, 2), event(9, 1, 5), event(20, 7, 0), event(last, 1023, 7)}
}

// Numbers that an ID, a Kind and an At may have, and such as they may not.
var (
	goodIDs   = []int{0, 1, 511, 1022, 1023}
	badIDs    = []int{least, -1024, -1, 1024, 1025, 2048, 1 << 32, -1 << 32, most}
	goodKinds = []int{0, 1, 6, 7}
	badKinds  = []int{least, -8, -1, 8, 9, 1 << 32, -1 << 32, most}
	goodAts   = []int64{0, 1, api.Horizon, last - 1, last}
	badAts    = []int64{-1 << 63, -api.Horizon, -1}
)

// P8.1, P8.2: the chapter's example.
func TestExample(t *testing.T) {
	c := New()
	if e := c.Put(event(5, 1, 0)); e != api.OK {
		t.Errorf("Put 5 of 1: %v", e)
	}
	if e := c.Put(event(3, 2, 0)); e != api.OK {
		t.Errorf("Put 3 of 2: %v", e)
	}
	if l := c.Due(4); !slices.Equal(l, []api.Event{event(3, 2, 0)}) {
		t.Errorf("Due(4): %v, want 3 of 2", l)
	}
	if e, ok := c.Next(); e != event(5, 1, 0) || !ok || c.Len() != 1 {
		t.Errorf("Next: %v, %v, Len: %d, want 5 of 1, of one", e, ok, c.Len())
	}
}

// P8.1: New has none; events can be put there.
func TestEmpty(t *testing.T) {
	b := pair(t)
	if b.c == nil {
		t.Fatal("New: nil")
	}
	for range 2 {
		b.empty(some())
	}
	b.put(event(5, 5, 5))
	b.look()
	b.end()
}

// P8.1: each ID, Kind and At that may be, with each other one, is there as it was put, and told so by all calls.
func TestPut(t *testing.T) {
	for _, id := range goodIDs {
		for _, kind := range goodKinds {
			for _, at := range goodAts {
				e := event(at, id, kind)
				for _, call := range []func(c *Calendar) (api.Event, bool){
					func(c *Calendar) (api.Event, bool) { return c.Next() },
					func(c *Calendar) (api.Event, bool) { return c.Drop(id, kind) },
					func(c *Calendar) (api.Event, bool) {
						l := c.Due(at)
						return l[0], len(l) == 1
					},
					func(c *Calendar) (api.Event, bool) {
						at, ok := c.At(id, kind)
						return event(at, id, kind), ok
					},
				} {
					c := New()
					if told := c.Put(e); told != api.OK || c.Len() != 1 {
						t.Fatalf("Put(%v): %v, Len: %d", e, told, c.Len())
					}
					if got, ok := call(c); got != e || !ok {
						t.Fatalf("%v was put: %v, %v", e, got, ok)
					}
				}
			}
		}
	}
}

// P8.1: ErrArg, if one of ID, Kind and At may not be, or two, or all; nothing is there, nor is what is there changed.
func TestPutErrArg(t *testing.T) {
	b := pair(t, some()...)
	for _, id := range slices.Concat(goodIDs, badIDs) {
		for _, kind := range slices.Concat(goodKinds, badKinds) {
			for _, at := range slices.Concat(goodAts, badAts) {
				e := event(at, id, kind)
				if slices.Contains(goodIDs, id) && slices.Contains(goodKinds, kind) && slices.Contains(goodAts, at) {
					continue
				}
				if got := b.c.Put(e); got != api.ErrArg {
					t.Fatalf("Put(%v): %v, want %v", e, got, api.ErrArg)
				}
				b.count()
			}
		}
	}
	b.look()
	b.end()
}

// P8.1: where both errors hold, ErrArg is told, as it is named first.
func TestWhichError(t *testing.T) {
	b := pair(t, some()...)
	for _, e := range some() {
		for _, at := range badAts {
			if got := b.c.Put(event(at, e.ID, e.Kind)); got != api.ErrArg {
				t.Errorf("Put(%v), where it is there: %v, want %v", event(at, e.ID, e.Kind), got, api.ErrArg)
			}
			b.look()
		}
	}
	b.end()
}

// P8.1: the second one of an ID and a Kind is told ErrThere, with the same At and with any other, and nothing changes.
func TestPutTwice(t *testing.T) {
	for _, e := range some() {
		b := pair(t, some()...)
		for _, at := range append([]int64{e.At, e.At/2 + 1, max(e.At, 1) - 1, 4, 5}, goodAts...) {
			if got := b.c.Put(event(at, e.ID, e.Kind)); got != api.ErrThere {
				t.Fatalf("Put(%v), where %v is there: %v, want %v", event(at, e.ID, e.Kind), e, got, api.ErrThere)
			}
			b.look()
		}
		b.end()
	}
}

// P8.1: the same ID with all Kinds, and the same Kind with all IDs, are events of their own.
func TestOtherKindsAndIDs(t *testing.T) {
	for _, at := range []func(n int) int64{
		func(n int) int64 { return 3 },
		func(n int) int64 { return int64(n) },
		func(n int) int64 { return int64(2000 - n) },
	} {
		b := pair(t)
		for kind := range 8 {
			b.put(event(at(kind), 5, kind))
			b.put(event(at(kind)+1, 5, kind))
			b.look()
		}
		b.end()
		for id := range 1024 {
			b.put(event(at(id), id, 2))
			b.put(event(at(id)+1, id, 2))
			b.count()
		}
		b.look()
		b.drop(77, 2)
		b.drop(77, 3)
		b.look()
		b.end()
	}
}

// P8.1: as many as there can be: each ID with each Kind; none of them is taken for another one.
func TestFull(t *testing.T) {
	for _, slots := range []int{1, 7, 1 << 20} {
		b, draw := pair(t), drawer()
		var all list
		for id := range 1024 {
			for kind := range 8 {
				all = append(all, event(int64(draw(slots)), id, kind))
			}
		}
		for i := range all {
			j := draw(len(all))
			all[i], all[j] = all[j], all[i]
		}
		for _, e := range all {
			if told := b.c.Put(e); told != api.OK {
				t.Fatalf("Put(%v): %v", e, told)
			}
		}
		b.l = slices.Clone(all)
		slices.SortFunc(b.l, func(x, y api.Event) int {
			if ahead(x, y) {
				return -1
			}
			return 1
		})
		b.count()
		for _, e := range all {
			if at, ok := b.c.At(e.ID, e.Kind); at != e.At || !ok {
				t.Fatalf("At(%d, %d): %d, %v, want %d", e.ID, e.Kind, at, ok, e.At)
			}
		}
		b.put(event(0, 1023, 7))
		b.due(int64(slots / 3))
		b.count()
		b.due(last)
		b.count()
	}
}

// P8.1: what was dropped is there no more, and what is left stands in order; one by one, all of them in all orders.
func TestDrop(t *testing.T) {
	orders(some()[:6], func(l []api.Event) {
		b := pair(t, some()...)
		for _, e := range l {
			b.drop(e.ID, e.Kind)
			b.at(e.ID, e.Kind)
			b.count()
		}
		b.look()
		b.end()
	})
}

// P8.1: behind a drop of any one all others are due in order, whichever order they were put in.
func TestDropAny(t *testing.T) {
	orders(some()[1:7], func(l []api.Event) {
		for _, e := range l {
			b := pair(t, l...)
			b.drop(e.ID, e.Kind)
			b.drop(e.ID, e.Kind)
			b.due(last)
			b.count()
		}
	})
}

// P8.1: one that was dropped, or was due, can be put again, with another At, and is there just once.
func TestPutAgain(t *testing.T) {
	for _, e := range some() {
		for _, at := range slices.Concat(goodAts, []int64{e.At, 4, 9}) {
			b := pair(t, some()...)
			again := event(at, e.ID, e.Kind)
			for range 3 {
				b.drop(e.ID, e.Kind)
				b.at(e.ID, e.Kind)
				b.put(again)
				b.put(e)
				b.look()
			}
			b.due(at)
			b.at(e.ID, e.Kind)
			b.put(e)
			b.put(again)
			b.look()
			b.due(e.At)
			b.put(again)
			b.look()
			b.end()
		}
	}
}

// P8.1, P8.2: Drop and At of what is not there tell nothing, and change nothing.
func TestNotThere(t *testing.T) {
	b := pair(t, some()...)
	for _, x := range [][2]int{{0, 0}, {7, 1}, {7, 2}, {1, 1}, {1, 3}, {9, 1}, {1023, 0}, {1023, 6}, {1022, 7}, {2, 0}, {3, 7}} {
		if e, ok := b.c.Drop(x[0], x[1]); ok || e != (api.Event{}) {
			t.Errorf("Drop(%d, %d): %v, %v", x[0], x[1], e, ok)
		}
		if at, ok := b.c.At(x[0], x[1]); ok || at != 0 {
			t.Errorf("At(%d, %d): %d, %v", x[0], x[1], at, ok)
		}
		b.look()
	}
	b.end()
}

// P8.1, P8.2: Drop and At of an ID or a Kind that may not be tell nothing, though all that may be are there.
func TestMayNotBe(t *testing.T) {
	c := New()
	for id := range 1024 {
		for kind := range 8 {
			c.Put(event(5, id, kind))
		}
	}
	for _, id := range slices.Concat(goodIDs, badIDs) {
		for _, kind := range slices.Concat(goodKinds, badKinds) {
			if slices.Contains(goodIDs, id) && slices.Contains(goodKinds, kind) {
				continue
			}
			if at, ok := c.At(id, kind); ok || at != 0 {
				t.Errorf("At(%d, %d): %d, %v", id, kind, at, ok)
			}
			if e, ok := c.Drop(id, kind); ok || e != (api.Event{}) {
				t.Errorf("Drop(%d, %d): %v, %v", id, kind, e, ok)
			}
			if c.Len() != 8192 {
				t.Fatalf("Len: %d, want 8192", c.Len())
			}
		}
	}
}

// P8.2: Due of slots ahead of all, on which some are due, between, and behind all.
func TestDue(t *testing.T) {
	l := some()
	for _, x := range []struct {
		at int64
		n  int
	}{{-1 << 63, 0}, {-1, 0}, {0, 1}, {1, 1}, {3, 1}, {4, 4}, {5, 4}, {8, 4}, {9, 6}, {10, 6}, {19, 6}, {20, 7}, {21, 7}, {last - 1, 7}, {last, 8}} {
		c := New()
		for i := range l {
			c.Put(l[(i*3+5)%len(l)])
		}
		if got := c.Due(x.at); !slices.Equal(got, l[:x.n]) {
			t.Errorf("Due(%d): %v, want %v", x.at, got, l[:x.n])
		}
		if c.Len() != len(l)-x.n {
			t.Errorf("Due(%d): %d are left, want %d", x.at, c.Len(), len(l)-x.n)
		}
		for i, e := range l {
			if _, ok := c.At(e.ID, e.Kind); ok != (i >= x.n) {
				t.Errorf("Due(%d): %v is there: %v", x.at, e, ok)
			}
		}
		if got := c.Due(x.at); len(got) != 0 {
			t.Errorf("Due(%d), a second time: %v", x.at, got)
		}
		if got := c.Due(last); !slices.Equal(got, l[x.n:]) {
			t.Errorf("Due(%d), then of all: %v, want %v", x.at, got, l[x.n:])
		}
	}
}

// P8.2: slot by slot; a slot that is ahead of one that was asked tells nothing more, but what was put since.
func TestDueSlotBySlot(t *testing.T) {
	b := pair(t, some()...)
	for at := range int64(25) {
		b.due(at)
		b.due(at)
		b.due(at - 1)
		b.look()
	}
	b.put(event(2, 3, 3))
	b.due(1)
	b.due(2)
	b.look()
	b.end()
}

// P8.2: of one At, a lesser Kind comes ahead, then a lesser ID, whichever order they were put in.
func TestOrderOfOneAt(t *testing.T) {
	for _, at := range goodAts {
		l := []api.Event{event(at, 2, 0), event(at, 1023, 0), event(at, 0, 1), event(at, 1, 1), event(at, 1023, 6), event(at, 0, 7)}
		orders(l, func(m []api.Event) {
			c := New()
			for _, e := range m {
				c.Put(e)
			}
			if e, _ := c.Next(); e != l[0] {
				t.Fatalf("%v were put: Next: %v, want %v", m, e, l[0])
			}
			if got := c.Due(at); !slices.Equal(got, l) {
				t.Fatalf("%v were put: Due: %v, want %v", m, got, l)
			}
		})
	}
}

// P8.2: a lesser At comes ahead of all else; each two of edge numbers.
func TestOrderOfTwo(t *testing.T) {
	var l []api.Event
	for _, at := range goodAts {
		for _, kind := range goodKinds {
			for _, id := range goodIDs {
				l = append(l, event(at, id, kind))
			}
		}
	}
	for i, e := range l {
		for j, f := range l {
			if e.ID == f.ID && e.Kind == f.Kind {
				continue
			}
			// l is written in the order of At, Kind, ID.
			want := []api.Event{l[min(i, j)], l[max(i, j)]}
			c := New()
			c.Put(e)
			c.Put(f)
			if got, _ := c.Next(); got != want[0] {
				t.Fatalf("%v and %v: Next: %v", e, f, got)
			}
			if got := c.Due(last); !slices.Equal(got, want) {
				t.Fatalf("%v and %v: Due: %v", e, f, got)
			}
		}
	}
}

// P8.2: seven events in all orders.
func TestAllOrders(t *testing.T) {
	want := some()[:7]
	orders(want, func(l []api.Event) {
		c := New()
		for _, e := range l {
			c.Put(e)
		}
		first, rest := c.Due(8), c.Due(20)
		if !slices.Equal(first, want[:4]) || !slices.Equal(rest, want[4:]) {
			t.Fatalf("%v were put: %v, then %v", l, first, rest)
		}
	})
}

// P8.2: Next, At and Len change nothing: asked twice, they tell the same.
func TestAsksAgain(t *testing.T) {
	b := pair(t, some()...)
	for range 9 {
		for range 5 {
			b.look()
		}
		if e, ok := b.c.Next(); ok {
			b.drop(e.ID, e.Kind)
		}
	}
	b.empty(some())
}

// P8.1, P8.2: a calendar that was emptied, by Due or by Drop, is as a new one.
func TestEmptied(t *testing.T) {
	for _, empty := range []func(b *both){
		func(b *both) { b.due(last) },
		func(b *both) {
			for at := range int64(21) {
				b.due(at)
			}
			b.drop(1023, 7)
		},
		func(b *both) {
			for _, e := range some() {
				b.drop(e.ID, e.Kind)
			}
		},
		func(b *both) {
			for len(b.l) > 0 {
				e, _ := b.c.Next()
				b.drop(e.ID, e.Kind)
			}
		},
	} {
		b := pair(t, some()...)
		for range 3 {
			empty(b)
			b.empty(some())
			for _, e := range some() {
				b.put(e)
				b.look()
			}
		}
		b.end()
	}
}

// P8.1, P8.2: the event of which all is 0 is one, and told by true.
func TestZeroEvent(t *testing.T) {
	b := pair(t, api.Event{})
	b.look()
	b.put(api.Event{})
	b.due(-1)
	b.look()
	b.drop(0, 0)
	b.put(api.Event{})
	if l := b.c.Due(0); !slices.Equal(l, []api.Event{{}}) {
		t.Errorf("Due(0): %v", l)
	}
}

// R3: what Due told is its owner's: it may be changed without any effect on the calendar, and stays as it is, whatever is asked later.
func TestMemory(t *testing.T) {
	b := pair(t, some()...)
	told := b.c.Due(4)
	b.l = b.l[len(told):]
	kept := slices.Clone(told)
	b.put(event(1, 7, 3))
	b.put(event(2, 1, 0))
	b.look()
	other := b.c.Due(9)
	b.l = b.l[len(other):]
	if !slices.Equal(told, kept) {
		t.Errorf("an answer, when the calendar changed: %v, want %v", told, kept)
	}
	keptOther := slices.Clone(other)
	for i := range told {
		told[i] = event(20, 7, 0)
	}
	_ = append(told[:0], event(1, 1, 1), event(2, 2, 2))
	if !slices.Equal(other, keptOther) {
		t.Errorf("another answer: %v, want %v", other, keptOther)
	}
	b.look()
	for _, e := range some() {
		b.at(e.ID, e.Kind)
	}
	b.put(event(30, 7, 3))
	b.look()
	b.end()
}

// nothing fails if a call of c tells anything, or if c takes anything.
func nothing(t *testing.T, what string, c *Calendar) {
	t.Helper()
	for _, id := range slices.Concat(goodIDs, badIDs) {
		for _, kind := range slices.Concat(goodKinds, badKinds) {
			for _, at := range slices.Concat(goodAts, badAts) {
				if e := c.Put(event(at, id, kind)); e != api.ErrArg {
					t.Fatalf("%s: Put(%v): %v, want %v", what, event(at, id, kind), e, api.ErrArg)
				}
			}
			if e, ok := c.Drop(id, kind); ok || e != (api.Event{}) {
				t.Fatalf("%s: Drop(%d, %d): %v, %v", what, id, kind, e, ok)
			}
			if at, ok := c.At(id, kind); ok || at != 0 {
				t.Fatalf("%s: At(%d, %d): %d, %v", what, id, kind, at, ok)
			}
		}
	}
	for _, at := range slices.Concat(goodAts, badAts) {
		if l := c.Due(at); len(l) != 0 {
			t.Errorf("%s: Due(%d): %v", what, at, l)
		}
	}
	if e, ok := c.Next(); ok || e != (api.Event{}) {
		t.Errorf("%s: Next: %v, %v", what, e, ok)
	}
	if n := c.Len(); n != 0 {
		t.Errorf("%s: Len: %d", what, n)
	}
}

// A nil calendar, and a zero one, again and again.
func TestNothing(t *testing.T) {
	var none *Calendar
	var zero Calendar
	for range 2 {
		nothing(t, "nil calendar", none)
		nothing(t, "zero calendar", &zero)
		nothing(t, "another zero calendar", new(Calendar))
	}
}

// Calendars know nothing of each other.
func TestOthers(t *testing.T) {
	a, b := pair(t, some()...), pair(t)
	b.put(event(3, 7, 3))
	a.look()
	b.look()
	a.drop(7, 3)
	b.look()
	b.end()
	a.look()
	a.end()
}

// A calendar gives out the chapter's calls alone: none by which its heap could be asked past them.
func TestCallsAlone(t *testing.T) {
	want := []string{"At", "Drop", "Due", "Len", "Next", "Put"}
	var got []string
	c := reflect.TypeFor[*Calendar]()
	for i := range c.NumMethod() {
		got = append(got, c.Method(i).Name)
	}
	if !slices.Equal(got, want) {
		t.Errorf("calls: %v, want %v", got, want)
	}
	for i := range c.Elem().NumField() {
		if f := c.Elem().Field(i); f.IsExported() {
			t.Errorf("field %s is given out", f.Name)
		}
	}
}

// P8.1, P8.2: rows of calls that look as if they were drawn, each held against a plain list.
func TestRowsOfCalls(t *testing.T) {
	for _, x := range []struct{ calls, ids, kinds, slots int }{{4000, 1, 8, 3}, {4000, 3, 2, 1}, {4000, 8, 8, 10}, {6000, 64, 4, 5}, {6000, 1024, 8, 1000}} {
		b, draw := pair(t), drawer()
		now := int64(0)
		id := func() int { return draw(x.ids+2) - 1 }
		kind := func() int { return draw(x.kinds+2) - 1 }
		for n := range x.calls {
			// The calendar fills for a while, then what is in it is due for a while.
			fills := n/(x.ids*x.kinds*2)%2 == 0
			switch draw(8) {
			case 0, 1, 2:
				b.put(event(now+int64(draw(x.slots+1))-1, id(), kind()))
			case 3, 4:
				if fills {
					b.put(event(int64(draw(x.slots)), id(), kind()))
				} else {
					b.due(now)
				}
			case 5:
				now += int64(draw(3))
				if !fills || draw(9) == 0 {
					b.due(now)
				}
			case 6:
				b.drop(id(), kind())
			default:
				b.at(id(), kind())
			}
			b.count()
		}
		b.look()
		b.end()
	}
}

// P8.2: a long time, slot by slot, in which what was due is put again, later.
func TestLongTime(t *testing.T) {
	b, draw := pair(t), drawer()
	for n := range 200 {
		b.put(event(int64(draw(50)), n*5, draw(8)))
	}
	start := b.c.Len()
	for now := range int64(3000) {
		due := slices.Clone(b.l)
		b.due(now)
		due = due[:len(due)-len(b.l)]
		for _, e := range due {
			b.put(event(now+1+int64(draw(60)), e.ID, e.Kind))
		}
		b.count()
	}
	if b.c.Len() != start {
		t.Errorf("Len: %d, want %d", b.c.Len(), start)
	}
	b.end()
}

// R4: the same calls have the same answers.
func TestSameAnswers(t *testing.T) {
	var first []api.Event
	for n := range 3 {
		c, draw := New(), drawer()
		var told []api.Event
		for i := range 2000 {
			c.Put(event(int64(draw(40)), draw(1024), draw(8)))
			if i%5 == 0 {
				told = append(told, c.Due(int64(draw(20)))...)
			}
		}
		told = append(told, c.Due(last)...)
		if n == 0 {
			first = told
		}
		if !slices.Equal(told, first) {
			t.Fatalf("told %v, then %v", first, told)
		}
	}
}
