package rule

import (
	"math"
	"slices"
	"testing"

	"regatta/api"
	"regatta/window"
)

const (
	most  = math.MaxInt64
	least = math.MinInt64
	last  = 1 << 40 // the greatest number of a subtask
)

func w(e, p int64) api.Weight { return api.Weight{E: e, P: p} }

// small are all weights whose period is at most n, those that are not in lowest terms among them.
func small(n int64) []api.Weight {
	var l []api.Weight
	for p := int64(1); p <= n; p++ {
		for e := int64(1); e <= p; e++ {
			l = append(l, w(e, p))
		}
	}
	return l
}

// lights are weights below a half, some of them just below.
func lights() []api.Weight {
	const p = api.MaxP
	return []api.Weight{w(1, 3), w(2, 5), w(2, 7), w(3, 7), w(5, 11), w(49, 100), w(1, p), w(p/2-1, p), w(p/2-1, p-1), w(349525, p)}
}

// heavies are weights of a half and above, some of them just a half, some just above, some 1.
func heavies() []api.Weight {
	const p = api.MaxP
	return []api.Weight{w(1, 2), w(2, 4), w(50, 100), w(p/2, p), w(2, 3), w(3, 5), w(6, 11), w(51, 100), w(p/2+1, p), w(p/2, p-1), w(8, 11), w(p-1, p), w(1, 1), w(5, 5), w(p, p)}
}

// wrong are weights that may not be, many of which would be heavy if they might be.
func wrong() []api.Weight {
	return []api.Weight{
		{}, w(0, 1), w(0, 7), w(0, api.MaxP), w(-1, 1), w(-1, 7), w(-3, 7), w(1, 0), w(1, -1), w(-1, -1), w(-7, -3), w(0, -1), w(-1, 0),
		w(2, 1), w(8, 7), w(api.MaxP, api.MaxP-1), w(api.MaxP+1, api.MaxP), w(1<<32+1, 2), w(1<<32+2, 1<<32+3),
		w(1, api.MaxP+1), w(api.MaxP, api.MaxP+1), w(api.MaxP+1, api.MaxP+1), w(1, most), w(most, most), w(most, 1), w(1<<62, 1<<62),
		w(least, least), w(least, 1), w(1, least), w(least, most), w(most, least), w(most, 7), w(least, 7), w(0, 0), w(0, least), w(0, most),
	}
}

func every() []api.Weight { return slices.Concat(small(12), lights(), heavies(), wrong()) }

// slots are some at which a share may be asked for.
func slots() []int64 {
	return []int64{0, 1, 2, 4, 5, 8, 1000, 1<<32 - 1, 1 << 32, last, 1 << 62, most - 1, most}
}

// subs are subtasks of all those deadlines, bits, and groups: below the deadline, at it, above, and 0.
func subs() []api.Sub {
	var l []api.Sub
	for _, d := range []int64{0, 1, 4, 7, 1000003, 1<<32 + 4, 1 << 62} {
		for _, b := range []int{0, 1, 2, -1, 3, 1<<32 + 1, most, least} {
			for _, g := range []int64{0, d - 1, d, d + 1, d + 2, d + 1000, d / 2, -1} {
				l = append(l, api.Sub{Index: 3, Release: 99, Deadline: d, Bit: b, Group: g})
			}
		}
	}
	return l
}

// until is the slot up to which a share is held, as the chapter's words have it.
func until(w api.Weight, s api.Sub) int64 {
	may := w.E >= 1 && w.E <= w.P && w.P <= 1<<20
	if may && 2*w.E >= w.P {
		if s.Group > s.Deadline {
			return s.Group
		}
		return s.Deadline
	}
	if s.Bit == 1 {
		return s.Deadline + 1
	}
	return s.Deadline
}

// tells holds Time, Wait and Free against what they should be.
func tells(t *testing.T, w api.Weight, s api.Sub, some bool, at, want int64) {
	t.Helper()
	if got := Time(w, s, some, at); got != want {
		t.Fatalf("Time(%v, %+v, %t, %d): %d, want %d", w, s, some, at, got, want)
	}
	if got := Wait(w, s, some, at); got != want-at {
		t.Fatalf("Wait(%v, %+v, %t, %d): %d, want %d", w, s, some, at, got, want-at)
	}
	if got := Free(w, s, some, at); got != (want == at) {
		t.Fatalf("Free(%v, %+v, %t, %d): %t, want %t", w, s, some, at, got, want == at)
	}
}

// around asks well ahead of the time that should be told, one slot ahead, at it, one behind it, and far behind.
func around(t *testing.T, w api.Weight, s api.Sub, end int64) {
	t.Helper()
	for _, ahead := range []int64{1, 2, 3, 10, 1 << 20} {
		tells(t, w, s, true, end-ahead, end)
	}
	for _, behind := range []int64{0, 1, 2, 3, 10, 1 << 20} {
		tells(t, w, s, true, end+behind, end+behind)
	}
	tells(t, w, s, true, most, most)
}

// P11.1: the chapter's examples, and others, written out.
func TestExamples(t *testing.T) {
	for _, x := range []struct {
		w    api.Weight
		s    api.Sub
		want int64
	}{
		{w(2, 7), api.Sub{Index: 1, Release: 0, Deadline: 4, Bit: 1}, 5},
		{w(8, 11), api.Sub{Index: 3, Release: 2, Deadline: 5, Bit: 1, Group: 8}, 8},
		{w(2, 7), api.Sub{Index: 2, Release: 3, Deadline: 7}, 7},
		{w(1, 3), api.Sub{Index: 1, Release: 0, Deadline: 3}, 3},
		{w(1, 2), api.Sub{Index: 1, Release: 0, Deadline: 2, Group: 2}, 2},
		{w(2, 3), api.Sub{Index: 1, Release: 0, Deadline: 2, Bit: 1, Group: 3}, 3},
		{w(2, 3), api.Sub{Index: 2, Release: 1, Deadline: 3, Group: 3}, 3},
		{w(1, 1), api.Sub{Index: 1, Release: 0, Deadline: 1, Group: 1}, 1},
		{w(2, 1), api.Sub{Index: 1, Release: 0, Deadline: 2, Bit: 1, Group: 9}, 3},
		{w(2, 1), api.Sub{Index: 1, Release: 0, Deadline: 2, Group: 9}, 2},
	} {
		tells(t, x.w, x.s, true, 0, x.want)
		around(t, x.w, x.s, x.want)
	}
}

// P11.1: no subtask waits, or ran: it is free at once, whatever the subtask says.
func TestNone(t *testing.T) {
	l := append(subs(), api.Sub{}, api.Sub{Index: most, Release: most, Deadline: most, Bit: most, Group: most}, api.Sub{Deadline: most, Bit: 1}, api.Sub{Deadline: least, Bit: least, Group: least})
	for _, x := range every() {
		for _, s := range l {
			for _, at := range append(slots(), -1, least, least+1, s.Deadline-1, s.Deadline, s.Deadline+1) {
				tells(t, x, s, false, at, at)
			}
		}
	}
}

// P11.1: all kinds of weights, with all kinds of subtasks, asked for ahead of the time, at it, and behind it.
func TestTime(t *testing.T) {
	for _, x := range every() {
		for _, s := range subs() {
			end := until(x, s)
			around(t, x, s, end)
			for _, at := range slots() {
				tells(t, x, s, true, at, max(at, end))
			}
		}
	}
}

// P11.1: weights that may not be are not heavy: what the subtask says of a group is nothing to them.
func TestWrongWeights(t *testing.T) {
	for _, x := range wrong() {
		around(t, x, api.Sub{Deadline: 4, Bit: 0, Group: 100}, 4)
		around(t, x, api.Sub{Deadline: 4, Bit: 1, Group: 100}, 5)
		around(t, x, api.Sub{Deadline: 4, Bit: 2, Group: 0}, 4)
		around(t, x, api.Sub{}, 0)
	}
}

// P11.1: just a half, next to it on either side, and 1: from a half on it is the group that counts, below it the bit.
func TestHalf(t *testing.T) {
	for _, x := range lights() {
		around(t, x, api.Sub{Deadline: 6, Bit: 1, Group: 100}, 7)
		around(t, x, api.Sub{Deadline: 6, Bit: 0, Group: 100}, 6)
	}
	for _, x := range heavies() {
		around(t, x, api.Sub{Deadline: 6, Bit: 1, Group: 100}, 100)
		around(t, x, api.Sub{Deadline: 6, Bit: 0, Group: 100}, 100)
		around(t, x, api.Sub{Deadline: 6, Bit: 1, Group: 6}, 6)
	}
}

// P11.1: of a light weight, any Bit but 1 is as 0.
func TestBit(t *testing.T) {
	for _, x := range slices.Concat(lights(), wrong()) {
		around(t, x, api.Sub{Deadline: 9, Bit: 1}, 10)
		for _, bit := range []int{0, 2, -1, 3, -2, 257, 1<<32 + 1, most, most - 1, least, least + 1} {
			around(t, x, api.Sub{Deadline: 9, Bit: bit}, 9)
		}
	}
}

// P11.1: of a heavy weight, a Group of 0, below the Deadline, at it, and above; the Bit is nothing to it.
func TestGroup(t *testing.T) {
	for _, x := range heavies() {
		for _, bit := range []int{0, 1, 2, -1, most} {
			for _, group := range []int64{least, -1, 0, 1, 8, 9} {
				around(t, x, api.Sub{Deadline: 9, Bit: bit, Group: group}, 9)
			}
			for _, group := range []int64{10, 11, 1 << 32, 1 << 62} {
				around(t, x, api.Sub{Deadline: 9, Bit: bit, Group: group}, group)
			}
		}
	}
}

// P11.1: neither the number of a subtask nor its release counts.
func TestOtherFields(t *testing.T) {
	for _, x := range []api.Weight{w(2, 7), w(8, 11), w(9, 7)} {
		for _, n := range []int64{least, -1, 0, 1, 1000, most} {
			s := api.Sub{Deadline: 9, Bit: 1, Group: 12}
			end := until(x, s)
			s.Index = n
			around(t, x, s, end)
			s.Release = n
			around(t, x, s, end)
		}
	}
}

// P11.1: Wait and Free, held against Time, at each slot by the time that is told.
func TestWaitAndFree(t *testing.T) {
	for _, x := range every() {
		for _, s := range []api.Sub{{Deadline: 20}, {Deadline: 20, Bit: 1}, {Deadline: 20, Bit: 1, Group: 25}, {Deadline: 20, Group: 3}, {}} {
			for _, some := range []bool{false, true} {
				for at := int64(0); at < 30; at++ {
					time := Time(x, s, some, at)
					if wait := Wait(x, s, some, at); wait != time-at || wait < 0 {
						t.Fatalf("Wait(%v, %+v, %t, %d): %d, but Time is %d", x, s, some, at, wait, time)
					}
					if free := Free(x, s, some, at); free != (time == at) {
						t.Fatalf("Free(%v, %+v, %t, %d): %t, but Time is %d", x, s, some, at, free, time)
					}
					// Who waits so long waits no more.
					tells(t, x, s, some, time, time)
				}
			}
		}
	}
}

// P1: the least and the greatest numbers of 64 bits, in all places at once, are answered, too; what is told is never ahead of at.
func TestGreatestNumbers(t *testing.T) {
	ends := []int64{least, least + 1, -1, 0, 1, most - 1, most}
	for _, x := range []api.Weight{w(2, 7), w(8, 11), w(1, 1), w(9, 7), w(most, most), w(least, least), {}} {
		for _, d := range ends {
			for _, g := range ends {
				for _, at := range ends {
					for _, bit := range []int{0, 1, most, least} {
						s := api.Sub{Index: d, Release: g, Deadline: d, Bit: bit, Group: g}
						if time := Time(x, s, true, at); time < at {
							t.Errorf("Time(%v, %+v, true, %d): %d", x, s, at, time)
						}
						Wait(x, s, true, at)
						Free(x, s, true, at)
					}
				}
			}
		}
	}
}

// P11.2: P of weights that may be, 0 of others.
func TestBound(t *testing.T) {
	for _, x := range slices.Concat(small(40), lights(), heavies()) {
		if got := Bound(x); got != x.P {
			t.Errorf("Bound(%v): %d, want %d", x, got, x.P)
		}
	}
	for _, x := range wrong() {
		if got := Bound(x); got != 0 {
			t.Errorf("Bound(%v): %d, want 0", x, got)
		}
	}
}

// waits tells how long it is waited for subtask i, offset later, that is the last one, if it is asked at its release; behind that it is never longer.
func waits(t *testing.T, w api.Weight, i, offset int64) int64 {
	t.Helper()
	s, e := window.Of(w, i, offset)
	if e != api.OK {
		t.Fatalf("window.Of(%v, %d, %d): error %d", w, i, offset, e)
	}
	end := until(w, s)
	for _, at := range []int64{s.Release, s.Release + 1, s.Deadline - 1, s.Deadline, end - 1, end, end + 1} {
		tells(t, w, s, true, at, max(at, end))
		if wait, bound := Wait(w, s, true, at), Bound(w); wait < 0 || wait > bound {
			t.Fatalf("Wait(%v, %+v, true, %d): %d, Bound is %d", w, s, at, wait, bound)
		}
	}
	return Wait(w, s, true, s.Release)
}

// P11.2: no window of package window's own, of small weights and all numbers of three periods, is waited for any longer.
func TestBoundOfSmall(t *testing.T) {
	for _, x := range small(48) {
		for i := int64(1); i <= 3*x.E; i++ {
			waits(t, x, i, 0)
			waits(t, x, i, 1000+i)
		}
	}
}

// P11.2: nor is one of a greater weight, with numbers of all sizes.
func TestBoundOfGreat(t *testing.T) {
	state := uint64(11)
	draw := func(below int64) int64 {
		state = state*6364136223846793005 + 1442695040888963407
		return int64((state >> 11) % uint64(below))
	}
	l := slices.Concat(lights(), heavies())
	for range 300 {
		p := 1 + draw(api.MaxP)
		l = append(l, w(1+draw(p), p), w((p+1)/2, p), w(max(1, p/2), p), w(max(1, p-1), p))
	}
	for _, x := range l {
		for _, i := range []int64{1, 2, 3, x.E, x.E + 1, last - 1, last} {
			waits(t, x, i, 0)
		}
		for range 50 {
			waits(t, x, 1+draw(1<<(1+draw(40))), draw(1<<40))
		}
	}
}

// P11.2: some wait just so long: of 1 by P for the whole window, of (P - 1) by P up to the end of the group.
func TestBoundIsMet(t *testing.T) {
	for _, p := range []int64{1, 2, 3, 4, 7, 100, api.MaxP - 1, api.MaxP} {
		for _, e := range []int64{1, max(1, p-1)} {
			if got := waits(t, w(e, p), 1, 5); got != p {
				t.Errorf("the first window of %v: %d slots are waited, want %d", w(e, p), got, p)
			}
		}
	}
}

// ahead tells if a is the one to be told of both, as the chapter's words have it, one by one.
func ahead(a, b api.Event) bool {
	return a.At > b.At ||
		a.At == b.At && a.ID < b.ID ||
		a.At == b.At && a.ID == b.ID && a.Kind < b.Kind
}

// latest holds Latest of l against want, and l against what it was.
func latest(t *testing.T, l []api.Event, want api.Event) {
	t.Helper()
	before := slices.Clone(l)
	for range 2 {
		if got, ok := Latest(l); !ok || got != want {
			t.Fatalf("Latest(%v): %v, %t, want %v", l, got, ok, want)
		}
	}
	if !slices.Equal(l, before) {
		t.Fatalf("Latest changed %v to %v", before, l)
	}
}

// orders calls f with all orders of l.
func orders(l []api.Event, f func([]api.Event)) {
	l = slices.Clone(l)
	var put func(n int)
	put = func(n int) {
		if n == len(l) {
			f(l)
			return
		}
		for i := n; i < len(l); i++ {
			l[n], l[i] = l[i], l[n]
			put(n + 1)
			l[n], l[i] = l[i], l[n]
		}
	}
	put(0)
}

// P11.2: nothing of none.
func TestLatestOfNone(t *testing.T) {
	full := []api.Event{{At: 5, ID: 1}}
	for _, l := range [][]api.Event{nil, {}, full[:0], full[1:], make([]api.Event, 0, 8)} {
		if e, ok := Latest(l); ok || e != (api.Event{}) {
			t.Errorf("Latest of none: %v, %t", e, ok)
		}
	}
}

// edges are events of the least and the greatest numbers, of those by 0, and of numbers that are the same in their low 32 bits.
func edges() []api.Event {
	var l []api.Event
	for _, at := range []int64{least, -1, 0, 5, 5 + 1<<32, most} {
		for _, id := range []int{least, -1, 0, 3, 3 + 1<<32, most} {
			for _, kind := range []int{least, -1, 0, 1, 1 + 1<<32, most} {
				l = append(l, api.Event{At: at, ID: id, Kind: kind})
			}
		}
	}
	return l
}

// P11.2: each event alone, the zero one and those of negative numbers too; and twice.
func TestLatestOfOne(t *testing.T) {
	for _, e := range edges() {
		latest(t, []api.Event{e}, e)
		latest(t, []api.Event{e, e}, e)
		latest(t, []api.Event{e, e, e}, e)
	}
}

// P11.2: all pairs of events of all sizes, with one of them twice, too.
func TestLatestOfTwo(t *testing.T) {
	l := edges()
	for _, a := range l {
		for _, b := range l {
			want := b
			if ahead(a, b) {
				want = a
			}
			latest(t, []api.Event{a, b}, want)
			latest(t, []api.Event{a, b, a}, want)
		}
	}
}

// P11.2: events of many slots, of one At, of one At and ID, and the same ones, in every order.
func TestLatestInEveryOrder(t *testing.T) {
	for _, x := range []struct {
		l    []api.Event
		want api.Event
	}{
		{[]api.Event{{At: 3, ID: 2}, {At: 5, ID: 9}, {At: 5, ID: 4, Kind: 1}, {At: 5, ID: 4}}, api.Event{At: 5, ID: 4}},
		{[]api.Event{{At: 1, ID: 1}, {At: 2, ID: 2}, {At: 3, ID: 3}, {At: 4, ID: 4}, {At: 5, ID: 5}, {At: 6, ID: 6}}, api.Event{At: 6, ID: 6}},
		{[]api.Event{{At: 7, ID: 5}, {At: 7, ID: 4, Kind: 3}, {At: 7, ID: 3, Kind: 1}, {At: 7, ID: 2, Kind: 2}, {At: 7, ID: 6}}, api.Event{At: 7, ID: 2, Kind: 2}},
		{[]api.Event{{At: 7, ID: 5, Kind: 3}, {At: 7, ID: 5, Kind: 2}, {At: 7, ID: 5, Kind: 1}, {At: 7, ID: 5, Kind: 4}, {At: 7, ID: 6}}, api.Event{At: 7, ID: 5, Kind: 1}},
		{[]api.Event{{At: 7, ID: 5, Kind: 1}, {At: 7, ID: 5, Kind: 1}, {At: 7, ID: 5, Kind: 2}, {At: 7, ID: 5, Kind: 2}, {At: 6}}, api.Event{At: 7, ID: 5, Kind: 1}},
		{[]api.Event{{At: 0, ID: 1}, {At: 0, ID: 0, Kind: 1}, {At: 0, ID: 0}, {At: -1, ID: -1, Kind: -1}}, api.Event{}},
		{[]api.Event{{At: -3, ID: -3}, {At: -2, ID: -1}, {At: -2, ID: -2, Kind: 5}, {At: -2, ID: -2, Kind: -5}}, api.Event{At: -2, ID: -2, Kind: -5}},
	} {
		orders(x.l, func(l []api.Event) { latest(t, l, x.want) })
	}
}

// P11.2: all rows of four of eight events, held against one that nothing of the row goes ahead of.
func TestLatestOfAllRows(t *testing.T) {
	var few []api.Event
	for n := range 8 {
		few = append(few, api.Event{At: int64(n & 1), ID: n >> 1 & 1, Kind: n >> 2})
	}
	for row := range 8 * 8 * 8 * 8 {
		l := []api.Event{few[row&7], few[row>>3&7], few[row>>6&7], few[row>>9]}
		want := l[slices.IndexFunc(l, func(a api.Event) bool {
			return !slices.ContainsFunc(l, func(b api.Event) bool { return ahead(b, a) })
		})]
		latest(t, l, want)
	}
}

// P11.2, R3: a long row, what lies behind it in memory, and a row that is changed behind the call.
func TestLatestOfLong(t *testing.T) {
	all := make([]api.Event, 100001)
	for i := range all {
		all[i] = api.Event{At: int64(i * 7 % 1000), ID: i % 13, Kind: i % 3}
	}
	l := all[:100000]
	all[100000] = api.Event{At: most}
	want := l[0]
	for _, e := range l {
		if ahead(e, want) {
			want = e
		}
	}
	latest(t, l, want)
	if all[100000] != (api.Event{At: most}) {
		t.Error("what lies behind the row was changed")
	}
	got, _ := Latest(l)
	clear(l)
	if got != want {
		t.Errorf("what was told is now %v", got)
	}
	latest(t, l, api.Event{})
}
