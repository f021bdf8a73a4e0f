package heap

import (
	"math"
	"slices"
	"testing"
)

const (
	most  = math.MaxInt
	least = math.MinInt
)

// thing is less by its key alone; its name tells it apart from others of that key.
type thing struct{ key, name int }

func less(a, b thing) bool { return a.key < b.key }

// put is a thing that is there, with its number.
type put struct {
	id int
	x  thing
}

// list is a plain one: what a heap is held against.
type list []put

func (l list) at(id int) int {
	return slices.IndexFunc(l, func(p put) bool { return p.id == id })
}

// first is the place of the one that goes ahead of all others, as the chapter's words have it.
func (l list) first() int {
	at := 0
	for i, p := range l {
		q := l[at]
		if p.x.key < q.x.key || p.x.key == q.x.key && p.id < q.id {
			at = i
		}
	}
	return at
}

func (l list) ids() []int {
	var ids []int
	for _, p := range l {
		ids = append(ids, p.id)
	}
	slices.Sort(ids)
	return ids
}

// both are a heap and a plain list, of which the same is asked.
type both struct {
	t *testing.T
	h *Heap[thing]
	l list
}

func pair(t *testing.T, l ...put) *both {
	t.Helper()
	b := &both{t: t, h: New(less)}
	for _, p := range l {
		b.push(p.id, p.x)
	}
	return b
}

func (b *both) push(id int, x thing) {
	b.t.Helper()
	want := b.l.at(id) < 0
	if want {
		b.l = append(b.l, put{id, x})
	}
	if got := b.h.Push(id, x); got != want {
		b.t.Fatalf("Push(%d, %v): %v, want %v", id, x, got, want)
	}
}

func (b *both) pop() {
	b.t.Helper()
	var want put
	there := len(b.l) > 0
	if there {
		at := b.l.first()
		want = b.l[at]
		b.l = slices.Delete(b.l, at, at+1)
	}
	if id, x, ok := b.h.Pop(); (put{id, x}) != want || ok != there {
		b.t.Fatalf("Pop: %d, %v, %v, want %v, %v", id, x, ok, want, there)
	}
}

func (b *both) min() {
	b.t.Helper()
	var want put
	there := len(b.l) > 0
	if there {
		want = b.l[b.l.first()]
	}
	if id, x, ok := b.h.Min(); (put{id, x}) != want || ok != there {
		b.t.Fatalf("Min: %d, %v, %v, want %v, %v", id, x, ok, want, there)
	}
}

func (b *both) remove(id int) {
	b.t.Helper()
	var want thing
	at := b.l.at(id)
	if at >= 0 {
		want = b.l[at].x
		b.l = slices.Delete(b.l, at, at+1)
	}
	if x, ok := b.h.Remove(id); x != want || ok != (at >= 0) {
		b.t.Fatalf("Remove(%d): %v, %v, want %v, %v", id, x, ok, want, at >= 0)
	}
}

func (b *both) get(id int) {
	b.t.Helper()
	var want thing
	at := b.l.at(id)
	if at >= 0 {
		want = b.l[at].x
	}
	if x, ok := b.h.Get(id); x != want || ok != (at >= 0) {
		b.t.Fatalf("Get(%d): %v, %v, want %v, %v", id, x, ok, want, at >= 0)
	}
}

// count holds all calls that change nothing, but Get, against the list.
func (b *both) count() {
	b.t.Helper()
	b.min()
	if n := b.h.Len(); n != len(b.l) {
		b.t.Fatalf("Len: %d, want %d", n, len(b.l))
	}
	if ids := b.h.IDs(); !slices.Equal(ids, b.l.ids()) {
		b.t.Fatalf("IDs: %v, want %v", ids, b.l.ids())
	}
}

// look is count, and Get of all numbers that are there.
func (b *both) look() {
	b.t.Helper()
	b.count()
	for _, p := range b.l {
		b.get(p.id)
	}
}

// drain pops all, and one more.
func (b *both) drain() {
	b.t.Helper()
	for len(b.l) > 0 {
		b.min()
		b.pop()
	}
	b.pop()
	b.look()
}

// orders calls f with all orders of l.
func orders(l []put, f func([]put)) {
	var set func(n int)
	l = slices.Clone(l)
	set = func(n int) {
		if n == len(l) {
			f(l)
			return
		}
		for i := n; i < len(l); i++ {
			l[n], l[i] = l[i], l[n]
			set(n + 1)
			l[n], l[i] = l[i], l[n]
		}
	}
	set(0)
}

// drawer tells numbers that look as if they were drawn, always the same ones.
func drawer() func(of int) int {
	x := uint64(1)
	return func(of int) int {
		x = x*6364136223846793005 + 1442695040888963407
		return int(x >> 33 % uint64(of))
	}
}

// row are n puts of different numbers, whose keys are below keys.
func row(n, keys int) []put {
	draw := drawer()
	var l []put
	for i := range n {
		l = append(l, put{(i*7 - n) * 3, thing{draw(keys), i}})
	}
	for i := range l {
		j := draw(n)
		l[i], l[j] = l[j], l[i]
	}
	return l
}

// some are seven puts: two keys that are there twice, numbers on both sides of 0.
func some() []put {
	return []put{{3, thing{5, 1}}, {-1, thing{5, 2}}, {4, thing{2, 3}}, {0, thing{9, 4}}, {-7, thing{7, 5}}, {2, thing{2, 6}}, {8, thing{4, 7}}}
}

// none fails if a call of h answers anything but that there is nothing, or if h takes anything.
func none(t *testing.T, what string, h *Heap[thing]) {
	t.Helper()
	for _, id := range []int{0, 1, -1, most, least} {
		if h.Push(id, thing{1, 1}) {
			t.Errorf("%s: Push(%d): true", what, id)
		}
		if x, ok := h.Get(id); ok || x != (thing{}) {
			t.Errorf("%s: Get(%d): %v, %v", what, id, x, ok)
		}
		if x, ok := h.Remove(id); ok || x != (thing{}) {
			t.Errorf("%s: Remove(%d): %v, %v", what, id, x, ok)
		}
	}
	if id, x, ok := h.Pop(); ok || id != 0 || x != (thing{}) {
		t.Errorf("%s: Pop: %d, %v, %v", what, id, x, ok)
	}
	if id, x, ok := h.Min(); ok || id != 0 || x != (thing{}) {
		t.Errorf("%s: Min: %d, %v, %v", what, id, x, ok)
	}
	if n := h.Len(); n != 0 {
		t.Errorf("%s: Len: %d", what, n)
	}
	if ids := h.IDs(); len(ids) != 0 {
		t.Errorf("%s: IDs: %v", what, ids)
	}
}

// P7.1, P7.2, P7.3: the chapter's example, call by call.
func TestExample(t *testing.T) {
	h := New(func(a, b int) bool { return a < b })
	for _, x := range [][2]int{{1, 5}, {2, 3}, {3, 5}} {
		if !h.Push(x[0], x[1]) {
			t.Errorf("Push(%d, %d): false", x[0], x[1])
		}
	}
	if x, ok := h.Remove(2); x != 3 || !ok {
		t.Errorf("Remove(2): %d, %v, want 3", x, ok)
	}
	for _, want := range []int{1, 3} {
		if id, x, ok := h.Pop(); id != want || x != 5 || !ok {
			t.Errorf("Pop: %d, %d, %v, want %d and 5", id, x, ok, want)
		}
	}
	if id, x, ok := h.Pop(); id != 0 || x != 0 || ok {
		t.Errorf("Pop of none: %d, %d, %v", id, x, ok)
	}
}

// P7.1: New is a heap with nothing, of which nothing can be taken, but into which things can be put.
func TestEmpty(t *testing.T) {
	b := pair(t)
	if b.h == nil {
		t.Fatal("New: nil")
	}
	for range 2 {
		b.pop()
		b.look()
		for _, id := range []int{0, 1, -1, most, least} {
			b.remove(id)
			b.get(id)
		}
	}
	b.push(5, thing{5, 5})
	b.look()
	b.drain()
}

// P7.1, P7.2: a heap that was emptied, by Pop or by Remove, is as a new one.
func TestEmptied(t *testing.T) {
	for _, empty := range []func(b *both){
		func(b *both) { b.drain() },
		func(b *both) {
			for _, p := range some() {
				b.remove(p.id)
			}
		},
		func(b *both) {
			for len(b.l) > 0 {
				b.pop()
				b.remove(b.l[len(b.l)-1].id)
				b.remove(b.l[b.l.first()].id)
				b.pop()
				b.pop()
				b.pop()
				b.pop()
			}
		},
	} {
		b := pair(t, some()...)
		for range 3 {
			empty(b)
			if b.h.Len() != 0 {
				t.Fatalf("Len: %d, want 0", b.h.Len())
			}
			b.pop()
			b.look()
			for _, p := range some() {
				b.get(p.id)
				b.remove(p.id)
			}
			for _, p := range some() {
				b.push(p.id, p.x)
				b.look()
			}
		}
	}
}

// P7.1: of a number that is there, the second one is told false, and nothing changes, whatever is pushed.
func TestPushTwice(t *testing.T) {
	for _, p := range some() {
		for _, key := range []int{least, 0, p.x.key - 1, p.x.key, p.x.key + 1, most} {
			b := pair(t, some()...)
			other := thing{key, 99}
			for range 3 {
				if b.h.Push(p.id, other) {
					t.Fatalf("Push(%d, %v): true, where it was there", p.id, other)
				}
				b.look()
			}
			b.drain()
		}
	}
}

// P7.1: what was removed, or popped, can be put again, with another thing, and is there just once.
func TestPushAgain(t *testing.T) {
	for _, p := range some() {
		for _, key := range []int{least, 0, p.x.key, most} {
			b := pair(t, some()...)
			for n := range 3 {
				b.remove(p.id)
				b.get(p.id)
				b.look()
				b.push(p.id, thing{key, n})
				b.push(p.id, thing{1, n})
				b.look()
			}
			b.drain()
		}
	}
	b := pair(t, some()...)
	for n := range 50 {
		id, _, _ := b.h.Min()
		b.pop()
		b.get(id)
		b.remove(id)
		b.push(id, thing{n % 11, n})
		b.push(id, thing{0, n})
		b.look()
	}
	b.drain()
}

// P7.1, P7.2: numbers below 0, the least and the greatest ones, and some that are the same in their low 32 bits.
func TestNumbers(t *testing.T) {
	ids := []int{least, least + 1, -1 << 32, -2, -1, 0, 1, 2, 1 << 32, 1<<32 + 1, most - 1, most}
	for _, keys := range [][]int{{0}, {1, 0}, {0, 1, 2, 3, 4, 5, 6, 7, 8, 9, 10, 11}, {11, 10, 9, 8, 7, 6, 5, 4, 3, 2, 1, 0}, {most, least, 0}} {
		for range 2 {
			b := pair(t)
			for i, id := range ids {
				b.get(id)
				b.remove(id)
				b.push(id, thing{keys[i%len(keys)], i})
				b.look()
			}
			for i, id := range ids {
				b.push(id, thing{-i, i})
				b.remove(id)
				b.look()
				b.push(id, thing{keys[i%len(keys)], -i})
			}
			b.drain()
			slices.Reverse(ids)
		}
	}
}

// P7.1, P7.2: of a number that is not there, Get and Remove tell nothing, and change nothing; what is there is found by its own number alone.
func TestNotThere(t *testing.T) {
	b := pair(t, some()...)
	for _, id := range []int{1, 5, 7, -2, -3, -4, -8, 9, 3 + 1<<32, 8 + 1<<32, -1 - 1<<32, most, least} {
		if x, ok := b.h.Get(id); ok || x != (thing{}) {
			t.Errorf("Get(%d): %v, %v", id, x, ok)
		}
		if x, ok := b.h.Remove(id); ok || x != (thing{}) {
			t.Errorf("Remove(%d): %v, %v", id, x, ok)
		}
		b.look()
	}
	b.drain()
}

// P7.1: what is there is the thing itself, though it is the zero one.
func TestZeroThing(t *testing.T) {
	b := pair(t, put{0, thing{}})
	if id, x, ok := b.h.Min(); id != 0 || x != (thing{}) || !ok {
		t.Errorf("Min: %d, %v, %v", id, x, ok)
	}
	if x, ok := b.h.Get(0); x != (thing{}) || !ok {
		t.Errorf("Get(0): %v, %v", x, ok)
	}
	b.push(0, thing{1, 1})
	b.look()
	b.remove(0)
	b.push(0, thing{})
	b.drain()
}

// P7.3: things of which neither is less come by their numbers, whichever order they were put in.
func TestNeitherLess(t *testing.T) {
	l := []put{{4, thing{5, 1}}, {-9, thing{5, 2}}, {least, thing{5, 3}}, {most, thing{5, 4}}, {0, thing{5, 5}}, {-1, thing{5, 6}}}
	want := []int{least, -9, -1, 0, 4, most}
	orders(l, func(l []put) {
		b := pair(t, l...)
		for _, id := range want {
			if got, _, _ := b.h.Min(); got != id {
				t.Fatalf("Min: %d, want %d", got, id)
			}
			b.pop()
		}
	})
	n := 2000
	h := New(func(a, b string) bool { return false })
	for i := range n {
		h.Push(i*777%n, "x")
	}
	for i := range n {
		if id, x, ok := h.Pop(); id != i || x != "x" || !ok {
			t.Fatalf("Pop: %d, %q, %v, want %d", id, x, ok, i)
		}
	}
}

// P7.3: what is less goes ahead, whatever the numbers are; of others, the lesser number does.
func TestAhead(t *testing.T) {
	for _, x := range [][2]put{
		{{9, thing{1, 0}}, {1, thing{2, 0}}},
		{{1, thing{1, 0}}, {9, thing{2, 0}}},
		{{most, thing{least, 0}}, {least, thing{most, 0}}},
		{{most, thing{-1, 0}}, {least, thing{0, 0}}},
		{{1, thing{2, 9}}, {9, thing{2, 1}}},
		{{-1, thing{2, 0}}, {0, thing{2, 0}}},
		{{least, thing{2, 0}}, {most, thing{2, 0}}},
	} {
		for _, l := range [][]put{{x[0], x[1]}, {x[1], x[0]}} {
			b := pair(t, l...)
			if id, got, ok := b.h.Min(); (put{id, got}) != x[0] || !ok {
				t.Errorf("Min of %v: %d, %v, %v, want %v", l, id, got, ok, x[0])
			}
			b.drain()
		}
	}
}

// P7.3: less may put things in any order, not only in that of numbers.
func TestOtherOrders(t *testing.T) {
	words := []string{"", "a", "aa", "b", "ba", "c"}
	up := New(func(a, b string) bool { return a < b })
	down := New(func(a, b string) bool { return a > b })
	long := New(func(a, b string) bool { return len(a) < len(b) })
	for i := range words {
		at := i * 5 % len(words)
		up.Push(at, words[at])
		down.Push(at, words[at])
		long.Push(at, words[at])
	}
	for name, x := range map[string]struct {
		h    *Heap[string]
		want []int
	}{"up": {up, []int{0, 1, 2, 3, 4, 5}}, "down": {down, []int{5, 4, 3, 2, 1, 0}}, "long": {long, []int{0, 1, 3, 5, 2, 4}}} {
		for _, want := range x.want {
			if id, s, ok := x.h.Pop(); id != want || s != words[want] || !ok {
				t.Errorf("%s: Pop: %d, %q, %v, want %d", name, id, s, ok, want)
			}
		}
	}
}

// P7.3: seven things in all orders.
func TestAllOrders(t *testing.T) {
	want := []int{2, 4, 8, -1, 3, -7, 0}
	orders(some(), func(l []put) {
		h := New(less)
		for _, p := range l {
			h.Push(p.id, p.x)
		}
		for _, id := range want {
			if got, x, ok := h.Pop(); got != id || x != l[list(l).at(id)].x || !ok {
				t.Fatalf("put in the order of %v: Pop: %d, %v, %v, want %d", l, got, x, ok, id)
			}
		}
	})
}

// P7.1, P7.3: of six things in all orders any one is removed: the first, the last, or one between; all others still come in order.
func TestRemoveAny(t *testing.T) {
	orders([]put{{1, thing{1, 1}}, {2, thing{5, 2}}, {3, thing{2, 3}}, {4, thing{6, 4}}, {5, thing{6, 5}}, {6, thing{3, 6}}}, func(l []put) {
		for id := 1; id <= 6; id++ {
			// What comes behind the removal keeps what took the free place from being the last one, which would hide that it stands wrong.
			for later := range 3 {
				b := pair(t, l...)
				b.remove(id)
				b.count()
				for n := range later {
					b.push(100+n, thing{9, n})
				}
				b.drain()
			}
		}
	})
}

// P7.1, P7.3: all things of a longer row are removed, in many orders.
func TestRemoveAll(t *testing.T) {
	for _, keys := range []int{1, 2, 7, 1000} {
		l := row(60, keys)
		for step := 1; step < 60; step += 2 {
			if step%3 == 0 || step%5 == 0 {
				continue
			}
			b := pair(t, l...)
			for i := range l {
				b.remove(l[i*step%60].id)
				b.count()
			}
			b.remove(l[0].id)
		}
	}
}

// P7.1, P7.3: behind a removal in the middle of a longer row all others come in order.
func TestRemoveOfLongRow(t *testing.T) {
	l := row(100, 30)
	for _, p := range l {
		b := pair(t, l...)
		b.remove(p.id)
		b.drain()
	}
}

// P7.2: Min, Get, Len and IDs change nothing.
func TestAsksAgain(t *testing.T) {
	b := pair(t, some()...)
	for range 5 {
		b.look()
	}
	b.drain()
}

// P7.2: IDs rise, and its answer is its owner's.
func TestIDs(t *testing.T) {
	b := pair(t, some()...)
	want := []int{-7, -1, 0, 2, 3, 4, 8}
	for range 3 {
		ids, other := b.h.IDs(), b.h.IDs()
		if !slices.Equal(ids, want) {
			t.Fatalf("IDs: %v, want %v", ids, want)
		}
		for i := range ids {
			ids[i] = 1 << 20
		}
		_ = append(ids[:0], 5, 6, 7)
		if !slices.Equal(other, want) {
			t.Fatalf("another answer: %v, want %v", other, want)
		}
		b.look()
	}
	other := b.h.IDs()
	b.pop()
	b.remove(3)
	b.push(100, thing{})
	if !slices.Equal(other, want) {
		t.Errorf("an answer, when the heap changed: %v, want %v", other, want)
	}
	b.drain()
}

// A nil heap, one of a nil less, and a zero one, again and again.
func TestNothing(t *testing.T) {
	var no *Heap[thing]
	var zero Heap[thing]
	without := New[thing](nil)
	for range 2 {
		none(t, "nil heap", no)
		none(t, "heap of a nil less", without)
		none(t, "zero heap", &zero)
	}
}

// P7.1, P7.2, P7.3: rows of calls that look as if they were drawn, each held against a plain list.
func TestRowsOfCalls(t *testing.T) {
	for _, x := range []struct{ calls, ids, keys int }{{4000, 5, 3}, {4000, 12, 1}, {6000, 40, 10}, {6000, 100, 1000}, {3000, 400, 20}} {
		b, draw := pair(t), drawer()
		id := func() int { return (draw(x.ids) - x.ids/2) * (most / x.ids) }
		for n := range x.calls {
			// The row grows for a while, then shrinks for a while.
			grows := n/(x.ids*3)%2 == 0
			switch draw(8) {
			case 0, 1, 2:
				b.push(id(), thing{draw(x.keys), n})
			case 3, 4:
				if grows {
					b.push(id(), thing{draw(x.keys), n})
				} else {
					b.pop()
				}
			case 5:
				b.pop()
			case 6:
				b.remove(id())
			default:
				b.get(id())
			}
			b.count()
		}
		b.look()
		b.drain()
	}
}

// P7.3: a long row, put and removed in many places, and popped in order.
func TestLongRow(t *testing.T) {
	const n = 50000
	asked := 0
	h := New(func(a, b int) bool {
		asked++
		return a < b
	})
	for i := range n {
		h.Push(i, i*7919%n/2)
	}
	for i := 0; i < n; i += 3 {
		if x, ok := h.Remove(i); x != i*7919%n/2 || !ok {
			t.Fatalf("Remove(%d): %d, %v", i, x, ok)
		}
	}
	id, x, ok := h.Pop()
	for count := n - n/3 - 1; count > 1; count-- {
		nextID, next, more := h.Pop()
		if !ok || !more || x > next || x == next && id >= nextID {
			t.Fatalf("Pop: %d and %d, then %d and %d", id, x, nextID, next)
		}
		id, x, ok = nextID, next, more
	}
	if h.Len() != 0 {
		t.Errorf("Len: %d, want 0", h.Len())
	}
	// On each of at most 17 steps what rises asks twice, what sinks four times.
	if bound := n * 17 * (2 + 4); asked > bound {
		t.Errorf("less was asked %d times, above %d", asked, bound)
	}
}

// Heaps know nothing of each other.
func TestOthers(t *testing.T) {
	a, b := pair(t, some()...), pair(t)
	b.push(3, thing{1, 1})
	b.look()
	a.look()
	a.remove(3)
	b.look()
	b.drain()
	a.drain()
}

// R3: what is put is a copy; what is told is the caller's own.
func TestMemory(t *testing.T) {
	h := New(func(a, b [2]int) bool { return a[0] < b[0] })
	x := [2]int{5, 5}
	h.Push(1, x)
	x[0] = 9
	_, told, _ := h.Min()
	told[0] = 7
	got, _ := h.Get(1)
	got[1] = 8
	if id, y, ok := h.Pop(); id != 1 || y != [2]int{5, 5} || !ok {
		t.Errorf("Pop: %d, %v, %v", id, y, ok)
	}
}

// What is gone is kept nowhere, neither in the map nor behind the row's end.
func TestKeepsNothing(t *testing.T) {
	h := New(func(a, b *thing) bool { return a.key < b.key })
	for i := range 40 {
		h.Push(i, &thing{i * 7 % 40, i})
	}
	for i := range 20 {
		h.Pop()
		h.Remove(i)
		if len(h.places) != len(h.row) {
			t.Fatalf("%d places of %d things", len(h.places), len(h.row))
		}
		for _, e := range h.row[len(h.row):cap(h.row)] {
			if e.thing != nil {
				t.Fatalf("%v is kept", *e.thing)
			}
		}
	}
}

// R4: the same calls have the same answers.
func TestSameAnswers(t *testing.T) {
	l := row(200, 9)
	var first []put
	for n := range 3 {
		b := pair(t, l...)
		var told []put
		for range 200 {
			id, x, _ := b.h.Pop()
			told = append(told, put{id, x})
		}
		if n == 0 {
			first = told
		}
		if !slices.Equal(told, first) {
			t.Fatalf("told %v, then %v", first, told)
		}
	}
}

// standing fails if row and places do not fit together.
func standing(t *testing.T, what string, h *Heap[thing]) {
	t.Helper()
	ids := h.IDs()
	if len(ids) != h.Len() {
		t.Fatalf("%s: %d numbers of %d things", what, len(ids), h.Len())
	}
	for i, id := range ids {
		if i > 0 && ids[i-1] >= id {
			t.Fatalf("%s: IDs: %v", what, ids)
		}
		if _, ok := h.Get(id); !ok {
			t.Fatalf("%s: Get(%d): false, of %v", what, id, ids)
		}
	}
}

// use makes calls of all kinds, whatever they answer, and takes all that is there.
func use(t *testing.T, what string, h *Heap[thing]) {
	t.Helper()
	for n := range 300 {
		h.Push(n*37%100, thing{n % 5, n})
		standing(t, what, h)
		if n%3 == 0 {
			h.Remove(n * 11 % 100)
		}
		if n%4 == 0 {
			h.Pop()
		}
		standing(t, what, h)
	}
	for left := h.Len(); left > 0; left-- {
		id, _, ok := h.Pop()
		if _, there := h.Get(id); !ok || there || h.Len() != left-1 {
			t.Fatalf("%s: Pop: %d, %v, and %d of %d are left", what, id, ok, h.Len(), left)
		}
	}
}

// P1: with a less that is no order no call panics, or goes on for ever, and what is put is there till it is taken.
func TestNoOrder(t *testing.T) {
	draw, turn := drawer(), false
	for what, less := range map[string]func(a, b thing) bool{
		"always":   func(a, b thing) bool { return true },
		"not more": func(a, b thing) bool { return a.key <= b.key },
		"round":    func(a, b thing) bool { return (b.key-a.key+5)%5 < 3 },
		"drawn":    func(a, b thing) bool { return draw(2) == 0 },
		"in turn":  func(a, b thing) bool { turn = !turn; return turn },
	} {
		use(t, what, New(less))
	}
}

// P1: numbers that are not less than themselves, nor than any other.
func TestNotANumber(t *testing.T) {
	h := New(func(a, b float64) bool { return a < b })
	for i, x := range []float64{1, math.NaN(), 0, math.NaN(), math.Inf(1), math.Inf(-1)} {
		if !h.Push(i, x) {
			t.Errorf("Push(%d, %v): false", i, x)
		}
	}
	for h.Len() > 0 {
		if _, _, ok := h.Pop(); !ok {
			t.Fatal("Pop: false")
		}
	}
}

// P1: a less that panics is as one by which nothing is less.
func TestLessPanics(t *testing.T) {
	for _, value := range []any{"no", nil, 5} {
		h := New(func(a, b thing) bool { panic(value) })
		use(t, "panics", h)
		for _, p := range some() {
			h.Push(p.id, p.x)
		}
		for _, want := range []int{-7, -1, 0, 2, 3, 4, 8} {
			if id, _, ok := h.Pop(); id != want || !ok {
				t.Errorf("Pop: %d, %v, want %d", id, ok, want)
			}
		}
	}
	h := New(func(a, b *thing) bool { return a.key < b.key })
	for i := range 9 {
		h.Push(i, nil)
		h.Push(-i-1, &thing{-i, 0})
	}
	for range 18 {
		if _, _, ok := h.Pop(); !ok {
			t.Fatal("Pop: false")
		}
	}
}

// P1: a less that calls its own heap ends, and changes nothing there; what it asks it is told.
func TestLessCalls(t *testing.T) {
	var h *Heap[thing]
	calls := 0
	h = New(func(a, b thing) bool {
		calls++
		if _, ok := h.Remove(h.IDs()[0]); ok {
			t.Error("Remove within less: true")
		}
		if _, _, ok := h.Pop(); ok {
			t.Error("Pop within less: true")
		}
		if h.Push(1000, thing{}) {
			t.Error("Push within less: true")
		}
		if _, _, ok := h.Min(); !ok {
			t.Error("Min within less: false")
		}
		if _, ok := h.Get(h.IDs()[h.Len()-1]); !ok {
			t.Error("Get within less: false")
		}
		return a.key < b.key
	})
	b := &both{t: t, h: h}
	for _, p := range row(50, 9) {
		b.push(p.id, p.x)
		b.look()
	}
	for _, p := range row(50, 9)[:20] {
		b.remove(p.id)
		b.look()
	}
	b.drain()
	if calls == 0 {
		t.Error("less was not asked")
	}
	// Behind a call all can be changed again.
	if !h.Push(1000, thing{}) {
		t.Error("Push: false")
	}
}
