package fluid

import (
	"math"
	"math/big"
	"slices"
	"testing"

	"regatta/api"
	"regatta/window"
)

const (
	top   = 1 << 40 // the greatest number of slots, and of quanta
	most  = math.MaxInt64
	least = math.MinInt64
)

func w(e, p int64) api.Weight { return api.Weight{E: e, P: p} }

// small are all weights whose period is at most n, those that are not in lowest terms among them.
func small(n int64) []api.Weight {
	var l []api.Weight
	for p := int64(1); p <= n; p++ {
		for e := int64(1); e <= p; e++ {
			l = append(l, w(e, p))
		}
	}
	return l
}

// great are weights of great periods: light ones, heavy ones, those just on either side of a half, and 1.
func great() []api.Weight {
	const p = api.MaxP
	return []api.Weight{
		w(1, p), w(2, p), w(3, p), w(7, p), w(349525, p), w(699051, p), w(699050, p),
		w(p/2-1, p), w(p/2, p), w(p/2+1, p), w(p-7, p), w(p-2, p), w(p-1, p), w(p, p),
		w(1, p-1), w(p/2-1, p-1), w(p/2, p-1), w(p-2, p-1), w(p-1, p-1),
		w(524287, 1048573), w(524286, 1048573), w(1, 1), w(1, 2), w(2, 3), w(8, 11), w(1, 3), w(16, 24),
	}
}

// numbers are numbers of slots or quanta, both ends and what lies by powers of 2 among them.
func numbers() []int64 {
	l := []int64{0, 1, 2, 3, 5, 7, 11, 1000003, 999999999989, top / 3, top / 3 * 2, top - 3}
	for bit := 2; bit <= 40; bit++ {
		l = append(l, 1<<bit-1, 1<<bit)
		if bit < 40 {
			l = append(l, 1<<bit+1)
		}
	}
	return l
}

// each goes over small weights with all slots of three periods, and over great ones with numbers of all sizes.
func each(f func(w api.Weight, slots int64)) {
	for _, x := range small(24) {
		for slots := int64(0); slots <= 3*x.P; slots++ {
			f(x, slots)
		}
	}
	for _, x := range great() {
		for _, slots := range numbers() {
			f(x, slots)
		}
	}
}

// wrongWeights are weights that may not be.
func wrongWeights() []api.Weight {
	return []api.Weight{
		{}, w(0, 1), w(0, 7), w(0, api.MaxP), w(-1, 1), w(-1, 7), w(-3, 7), w(1, 0), w(0, 0), w(1, -1), w(-1, -1), w(-7, -3), w(0, -1),
		w(2, 1), w(8, 7), w(api.MaxP, api.MaxP-1), w(api.MaxP+1, api.MaxP),
		w(1, api.MaxP+1), w(api.MaxP, api.MaxP+1), w(api.MaxP+1, api.MaxP+1), w(1, most), w(most, most), w(most, 1), w(1<<62, 1<<62),
		w(least, least), w(least, 1), w(1, least), w(least, most), w(most, least), w(1<<32+1, 1<<32+2),
	}
}

// wrongNumbers are neither numbers of slots nor of quanta.
func wrongNumbers() []int64 {
	return []int64{-1, -2, -7, -top, least, least + 1, top + 1, top + 2, 2 * top, 1 << 62, most - 1, most}
}

// drawer tells numbers that look as if they were drawn, the same ones each time.
func drawer() func(below int64) int64 {
	state := uint64(9)
	return func(below int64) int64 {
		state = state*6364136223846793005 + 1442695040888963407
		return int64((state >> 11) % uint64(below))
	}
}

// drawn goes over weights, slots and quanta of all sizes, the quanta near to the share in half of the cases.
func drawn(f func(w api.Weight, slots, quanta int64)) {
	draw := drawer()
	for range 20000 {
		p := 1 + draw(1<<(1+draw(20)))
		x := w(1+draw(p), p)
		slots, quanta := draw(1<<(1+draw(40))+1), draw(1<<(1+draw(40))+1)
		if draw(2) == 0 {
			near := new(big.Int).Mul(big.NewInt(x.E), big.NewInt(slots))
			quanta = min(max(near.Div(near, big.NewInt(p)).Int64()+draw(5)-2, 0), top)
		}
		f(x, slots, quanta)
	}
}

// lag is E times slots, less P times quanta, of any numbers.
func lag(w api.Weight, slots, quanta int64) *big.Int {
	due := new(big.Int).Mul(big.NewInt(w.E), big.NewInt(slots))
	return due.Sub(due, new(big.Int).Mul(big.NewInt(w.P), big.NewInt(quanta)))
}

// held holds Lag and Fair of what may be against the chapter's words.
func held(t *testing.T, w api.Weight, slots, quanta int64) {
	t.Helper()
	want := lag(w, slots, quanta)
	if got, e := Lag(w, slots, quanta); e != api.OK || big.NewInt(got).Cmp(want) != 0 {
		t.Fatalf("Lag(%v, %d, %d): %d, %v, want %v", w, slots, quanta, got, e, want)
	}
	fair := new(big.Int).Abs(want).Cmp(big.NewInt(w.P)) < 0
	if got := Fair(w, slots, quanta); got != fair {
		t.Fatalf("Fair(%v, %d, %d): %t, want %t", w, slots, quanta, got, fair)
	}
}

// P9.1, example 5 of the whole, and numbers that are written out.
func TestLag(t *testing.T) {
	for _, x := range []struct {
		w             api.Weight
		slots, quanta int64
		want          int64
		fair          bool
	}{
		{w(2, 3), 0, 0, 0, true}, {w(2, 3), 3, 2, 0, true}, {w(2, 3), 4, 2, 2, true}, {w(2, 3), 4, 3, -1, true},
		{w(2, 3), 4, 1, 5, false}, {w(2, 3), 4, 4, -4, false},
		{w(2, 5), 7, 2, 4, true}, {w(2, 5), 7, 3, -1, true}, {w(2, 5), 7, 1, 9, false},
		{w(4, 6), 4, 2, 4, true}, {w(4, 6), 4, 3, -2, true}, {w(4, 6), 3, 1, 6, false}, {w(4, 6), 3, 3, -6, false},
		{w(1, 1), top, top, 0, true}, {w(1, 1), top, top - 1, 1, false}, {w(1, 1), top - 1, top, -1, false},
		{w(1, 1), top, 0, top, false}, {w(1, 1), 0, top, -top, false},
		{w(api.MaxP, api.MaxP), top, 0, 1 << 60, false}, {w(api.MaxP, api.MaxP), 0, top, -1 << 60, false},
		{w(api.MaxP, api.MaxP), top, top, 0, true}, {w(api.MaxP, api.MaxP), top, top - 1, api.MaxP, false},
		{w(1, api.MaxP), top, 0, top, false}, {w(1, api.MaxP), top, top, top - 1<<60, false}, {w(1, api.MaxP), top, 1 << 20, 0, true},
	} {
		if got, e := Lag(x.w, x.slots, x.quanta); got != x.want || e != api.OK {
			t.Errorf("Lag(%v, %d, %d): %d, %v, want %d", x.w, x.slots, x.quanta, got, e, x.want)
		}
		if got := Fair(x.w, x.slots, x.quanta); got != x.fair {
			t.Errorf("Fair(%v, %d, %d): %t, want %t", x.w, x.slots, x.quanta, got, x.fair)
		}
	}
}

// P9.1: a lag of just -P and P is not fair; one next to each, within, is.
func TestFairEdges(t *testing.T) {
	for _, x := range []struct {
		w             api.Weight
		slots, quanta int64
		lag           int64
		fair          bool
	}{
		{w(1, 7), 7, 0, 7, false}, {w(1, 7), 6, 0, 6, true}, {w(1, 7), 8, 0, 8, false},
		{w(1, 7), 7, 2, -7, false}, {w(1, 7), 8, 2, -6, true}, {w(1, 7), 6, 2, -8, false},
		{w(3, 7), 0, 1, -7, false}, {w(3, 7), 5, 3, -6, true}, {w(3, 7), 2, 0, 6, true}, {w(3, 7), 7, 2, 7, false}, {w(3, 7), 7, 4, -7, false},
		{w(6, 14), 7, 2, 14, false}, {w(6, 14), 2, 0, 12, true}, {w(6, 14), 5, 3, -12, true}, {w(6, 14), 7, 4, -14, false},
		{w(1, 1), 1, 0, 1, false}, {w(1, 1), 0, 1, -1, false}, {w(1, 1), 1, 1, 0, true},
		{w(1, api.MaxP), api.MaxP, 0, api.MaxP, false}, {w(1, api.MaxP), api.MaxP - 1, 0, api.MaxP - 1, true},
		{w(1, api.MaxP), 0, 1, -api.MaxP, false}, {w(1, api.MaxP), 1, 1, 1 - api.MaxP, true},
		{w(1, api.MaxP), top, 1<<20 - 1, api.MaxP, false}, {w(1, api.MaxP), top - 1, 1<<20 - 1, api.MaxP - 1, true},
		{w(1, api.MaxP), top, 1<<20 + 1, -api.MaxP, false},
		{w(api.MaxP-1, api.MaxP), top, top - 1<<20 + 1, -api.MaxP, false}, {w(api.MaxP-1, api.MaxP), top - 1, top - 1<<20, 1 - api.MaxP, true},
	} {
		if got, e := Lag(x.w, x.slots, x.quanta); got != x.lag || e != api.OK {
			t.Errorf("Lag(%v, %d, %d): %d, %v, want %d", x.w, x.slots, x.quanta, got, e, x.lag)
		}
		if got := Fair(x.w, x.slots, x.quanta); got != x.fair {
			t.Errorf("Fair(%v, %d, %d): %t, want %t", x.w, x.slots, x.quanta, got, x.fair)
		}
	}
}

// P9.1: against numbers of any length.
func TestLagAndFair(t *testing.T) {
	each(func(x api.Weight, slots int64) {
		for _, quanta := range numbers() {
			held(t, x, slots, quanta)
		}
		share := new(big.Int).Mul(big.NewInt(x.E), big.NewInt(slots))
		near := share.Div(share, big.NewInt(x.P)).Int64()
		for quanta := max(near-2, 0); quanta <= min(near+3, top); quanta++ {
			held(t, x, slots, quanta)
		}
	})
	drawn(func(x api.Weight, slots, quanta int64) { held(t, x, slots, quanta) })
}

// P9.1: a number out of range, of a weight that may be.
func TestWrongNumbers(t *testing.T) {
	right := []int64{0, 1, 7, top - 1, top}
	for _, x := range append(great(), small(4)...) {
		for _, n := range wrongNumbers() {
			for _, m := range append(right, wrongNumbers()...) {
				refused(t, x, n, m)
				refused(t, x, m, n)
			}
		}
	}
}

// P9.1: a weight that may not be, with what is right and what is not.
func TestWrongWeights(t *testing.T) {
	for _, x := range wrongWeights() {
		for _, slots := range append(numbers(), wrongNumbers()...) {
			for _, quanta := range append([]int64{0, 1, 2, 3, top - 1, top}, wrongNumbers()...) {
				refused(t, x, slots, quanta)
			}
		}
	}
}

// refused asks Lag and Fair of what may not be.
func refused(t *testing.T, w api.Weight, slots, quanta int64) {
	t.Helper()
	if got, e := Lag(w, slots, quanta); got != 0 || e != api.ErrArg {
		t.Fatalf("Lag(%v, %d, %d): %d, %v, want ErrArg", w, slots, quanta, got, e)
	}
	if Fair(w, slots, quanta) {
		t.Fatalf("Fair(%v, %d, %d): true, though Lag is an error", w, slots, quanta)
	}
}

// bounds holds Low, High and Due against numbers that are written out.
func bounds(t *testing.T, w api.Weight, slots, low, high int64, due bool) {
	t.Helper()
	if a, b, c := Low(w, slots), High(w, slots), Due(w, slots); a != low || b != high || c != due {
		t.Errorf("Low, High and Due of %v at %d: %d, %d, %t, want %d, %d, %t", w, slots, a, b, c, low, high, due)
	}
}

// P9.2: the chapter's example, slots where windows end and those next to them, and both ends.
func TestBounds(t *testing.T) {
	// The windows of 2/3: 0 to 2, 1 to 3, 3 to 5, 4 to 6.
	for slots, x := range []struct {
		low, high int64
		due       bool
	}{{0, 0, false}, {0, 1, true}, {1, 2, true}, {2, 2, false}, {2, 3, true}, {3, 4, true}, {4, 4, false}, {4, 5, true}} {
		bounds(t, w(2, 3), int64(slots), x.low, x.high, x.due)
		bounds(t, w(4, 6), int64(slots), x.low, x.high, x.due)
	}
	// Those of 8/11: 0 to 2, 1 to 3, 2 to 5, 4 to 6, 5 to 7, 6 to 9, 8 to 10, 9 to 11, 11 to 13.
	low := []int64{0, 0, 1, 2, 2, 3, 4, 5, 5, 6, 7, 8, 8, 9}
	high := []int64{0, 1, 2, 3, 3, 4, 5, 6, 6, 7, 8, 8, 9, 10}
	for slots := range 13 {
		bounds(t, w(8, 11), int64(slots), low[slots], high[slots], low[slots+1] > low[slots])
	}
	bounds(t, w(1, 1), 0, 0, 0, true)
	bounds(t, w(1, 1), 1, 1, 1, true)
	bounds(t, w(1, 1), top-1, top-1, top-1, true)
	bounds(t, w(1, 1), top, top, top, false)
	bounds(t, w(api.MaxP, api.MaxP), top-1, top-1, top-1, true)
	bounds(t, w(api.MaxP, api.MaxP), top, top, top, false)
	bounds(t, w(1, api.MaxP), 0, 0, 0, false)
	bounds(t, w(1, api.MaxP), 1, 0, 1, false)
	bounds(t, w(1, api.MaxP), api.MaxP-2, 0, 1, false)
	bounds(t, w(1, api.MaxP), api.MaxP-1, 0, 1, true)
	bounds(t, w(1, api.MaxP), api.MaxP, 1, 1, false)
	bounds(t, w(1, api.MaxP), api.MaxP+1, 1, 2, false)
	bounds(t, w(1, api.MaxP), top-2, 1<<20-1, 1<<20, false)
	bounds(t, w(1, api.MaxP), top-1, 1<<20-1, 1<<20, true)
	bounds(t, w(1, api.MaxP), top, 1<<20, 1<<20, false)
	// 2^40 leaves 1 by 3.
	bounds(t, w(2, 3), top-2, 733007751849, 733007751850, true)
	bounds(t, w(2, 3), top-1, 733007751850, 733007751850, false)
	bounds(t, w(2, 3), top, 733007751850, 733007751851, false)
	bounds(t, w(1, 3), top-2, 366503875924, 366503875925, true)
	bounds(t, w(1, 2), top-1, 1<<39-1, 1<<39, true)
	bounds(t, w(1, 2), top, 1<<39, 1<<39, false)
}

// P9.2: in slots of three periods each window is counted, one by one.
func TestBoundsCounted(t *testing.T) {
	for _, x := range small(24) {
		for slots := int64(0); slots <= 3*x.P; slots++ {
			var low, high int64
			next := false
			for i := int64(1); i <= 3*x.E+2; i++ {
				end := window.Deadline(x, i)
				if end <= slots {
					low++
				}
				if window.Release(x, i) < slots {
					high++
				}
				next = next || end == slots+1
			}
			bounds(t, x, slots, low, high, next)
		}
	}
}

// wide holds Low, High and Due against the windows of the subtasks next to those that are counted: as neither releases nor deadlines ever fall, all ahead are counted, and none behind.
func wide(t *testing.T, w api.Weight, slots int64) {
	t.Helper()
	low, high := Low(w, slots), High(w, slots)
	if low < 0 || low > top || low > 0 && window.Deadline(w, low) > slots || low < top && window.Deadline(w, low+1) <= slots {
		t.Fatalf("Low(%v, %d): %d, where deadlines are %d, %d", w, slots, low, window.Deadline(w, low), window.Deadline(w, low+1))
	}
	if high < 0 || high > top || high > 0 && window.Release(w, high) >= slots || high < top && window.Release(w, high+1) < slots {
		t.Fatalf("High(%v, %d): %d, where releases are %d, %d", w, slots, high, window.Release(w, high), window.Release(w, high+1))
	}
	due := slots < top && low < top && window.Deadline(w, low+1) == slots+1
	if got := Due(w, slots); got != due {
		t.Fatalf("Due(%v, %d): %t, want %t", w, slots, got, due)
	}
}

// P9.2: against window's own numbers, at slots of all sizes, and where windows begin and end.
func TestBoundsWide(t *testing.T) {
	each(func(x api.Weight, slots int64) { wide(t, x, slots) })
	drawn(func(x api.Weight, slots, i int64) {
		wide(t, x, slots)
		for _, at := range []int64{window.Release(x, i), window.Deadline(x, i)} {
			for near := max(at-2, 0); near <= min(at+2, top); near++ {
				wide(t, x, near)
			}
		}
	})
}

// P9.2: 0 and no, of weights that may not be, and of what is no number of slots.
func TestBoundsWrong(t *testing.T) {
	for _, x := range wrongWeights() {
		for _, slots := range append(numbers(), wrongNumbers()...) {
			bounds(t, x, slots, 0, 0, false)
		}
	}
	for _, x := range append(great(), small(4)...) {
		for _, slots := range wrongNumbers() {
			bounds(t, x, slots, 0, 0, false)
		}
	}
}

// row is one of a text, in which x is a slot that is so.
func row(text string) []bool {
	var l []bool
	for _, c := range text {
		l = append(l, c == 'x')
	}
	return l
}

// rows calls f with each row of n slots.
func rows(n int, f func(l []bool)) {
	for bits := range 1 << n {
		l := make([]bool, n)
		for i := range l {
			l[i] = bits>>i&1 == 1
		}
		f(l)
	}
}

// filled is a row of n slots that are all so, or none.
func filled(n int, ran bool) []bool {
	return slices.Repeat([]bool{ran}, n)
}

// P9.3: Runs.
func TestRuns(t *testing.T) {
	for _, x := range []struct {
		l    []bool
		want int64
	}{
		{nil, 0}, {[]bool{}, 0}, {row("."), 0}, {row("x"), 1}, {row(".x"), 1}, {row("x."), 1}, {row("x..x."), 2}, {row("xx"), 2}, {row("..."), 0}, {row("xxxx"), 4},
		{filled(1000003, true), 1000003}, {filled(1000003, false), 0}, {append(filled(70000, false), row("xx.x")...), 3},
	} {
		if got := Runs(x.l); got != x.want {
			t.Errorf("Runs of %d slots: %d, want %d", len(x.l), got, x.want)
		}
	}
	rows(10, func(l []bool) {
		var want int64
		for _, ran := range l {
			if ran {
				want++
			}
		}
		if got := Runs(l); got != want {
			t.Fatalf("Runs(%v): %d, want %d", l, got, want)
		}
	})
}

// P9.3: Follows, of rows that are written out.
func TestFollows(t *testing.T) {
	for _, x := range []struct {
		w    api.Weight
		text string
		want bool
	}{
		{w(2, 5), "", true}, {w(2, 5), "x..x.", true}, {w(2, 5), "xx", false}, {w(2, 5), "...", false}, {w(2, 5), "..", true},
		{w(2, 5), ".x.x.x..x.", true}, {w(2, 5), "x..x.x..x.", true}, {w(2, 5), "x..x.xx", false},
		// Fair up to some slot and not beyond, though the end of the row is fair again.
		{w(2, 5), "...x", false}, {w(2, 5), "xx...", false}, {w(2, 5), "xx........", false}, {w(2, 5), "...xx", false}, {w(2, 5), "x..x....x.", false},
		{w(4, 10), "x..x.", true}, {w(4, 10), "...x", false}, {w(4, 10), "xx...", false},
		{w(1, 1), "", true}, {w(1, 1), "xxxx", true}, {w(1, 1), ".", false}, {w(1, 1), "xx.", false}, {w(1, 1), "xx.x", false},
		{w(1, 2), "x.x.x.", true}, {w(1, 2), ".x.x.x", true}, {w(1, 2), "x..x", true}, {w(1, 2), "xx", false}, {w(1, 2), "..", false}, {w(1, 2), "x.x..xx", true}, {w(1, 2), "x.x...x", false}, {w(1, 2), ".xx..x", true},
		{w(1, api.MaxP), "x..........", true}, {w(1, api.MaxP), "..........", true}, {w(1, api.MaxP), "..........x", true}, {w(1, api.MaxP), "x.........x", false},
		{w(api.MaxP-1, api.MaxP), ".xxxxxxx", true}, {w(api.MaxP-1, api.MaxP), "xxxxxxx.", true}, {w(api.MaxP-1, api.MaxP), ".xxx.", false},
	} {
		if got := Follows(x.w, row(x.text)); got != x.want {
			t.Errorf("Follows(%v, %q): %t, want %t", x.w, x.text, got, x.want)
		}
	}
}

// P9.3: empty rows, and those of one kind alone.
func TestFollowsPlain(t *testing.T) {
	for _, x := range append(great(), small(24)...) {
		if !Follows(x, nil) || !Follows(x, []bool{}) {
			t.Errorf("Follows of %v and an empty row: false", x)
		}
	}
	for _, x := range []struct {
		w    api.Weight
		l    []bool
		want bool
	}{
		{w(1, api.MaxP), filled(api.MaxP-1, false), true}, {w(1, api.MaxP), filled(api.MaxP, false), false},
		{w(1, 2), filled(1, false), true}, {w(1, 2), filled(2, false), false},
		{w(1, 7), filled(6, false), true}, {w(1, 7), filled(7, false), false}, {w(2, 14), filled(6, false), true}, {w(2, 14), filled(7, false), false},
		{w(api.MaxP, api.MaxP), filled(api.MaxP, true), true}, {w(1, 1), filled(100003, true), true},
		{w(api.MaxP-1, api.MaxP), filled(api.MaxP-1, true), true}, {w(api.MaxP-1, api.MaxP), filled(api.MaxP, true), false},
		{w(6, 7), filled(6, true), true}, {w(6, 7), filled(7, true), false}, {w(1, 7), filled(1, true), true}, {w(1, 7), filled(2, true), false},
	} {
		if got := Follows(x.w, x.l); got != x.want {
			t.Errorf("Follows(%v) of %d slots: %t, want %t", x.w, len(x.l), got, x.want)
		}
	}
}

// P9.3: all rows of ten slots, and of each the parts one by one.
func TestFollowsAll(t *testing.T) {
	weights := append(small(12), w(1, api.MaxP), w(api.MaxP/2, api.MaxP), w(api.MaxP-1, api.MaxP), w(api.MaxP, api.MaxP))
	rows(10, func(l []bool) {
		for _, x := range weights {
			want := true
			for n := range len(l) + 1 {
				want = want && Fair(x, int64(n), Runs(l[:n]))
				if got := Follows(x, l[:n]); got != want {
					t.Fatalf("Follows(%v, %v): %t, want %t", x, l[:n], got, want)
				}
			}
		}
	})
}

// byWindows are two rows of so many slots: one in which each subtask runs where its window ends, and one in which it runs where that begins.
func byWindows(w api.Weight, slots int64) (late, early []bool) {
	late, early = make([]bool, slots), make([]bool, slots)
	for i := int64(1); window.Deadline(w, i) <= slots; i++ {
		late[window.Deadline(w, i)-1] = true
	}
	for i := int64(1); window.Release(w, i) < slots; i++ {
		early[window.Release(w, i)] = true
	}
	return late, early
}

// P9.2, P9.3: as late and as early as can be follows, and has Low and High runs; one run less of the first, or one more of the second, does not.
func TestFollowsWindows(t *testing.T) {
	const slots = 150
	for _, x := range append(small(24), w(8, 1048573), w(524287, 1048573), w(api.MaxP-1, api.MaxP)) {
		late, early := byWindows(x, slots)
		if !Follows(x, late) || Runs(late) != Low(x, slots) || !Follows(x, early) || Runs(early) != High(x, slots) {
			t.Fatalf("%v: rows by its windows do not follow, or have %d and %d runs", x, Runs(late), Runs(early))
		}
		for i := range slots {
			if late[i] {
				less := slices.Clone(late)
				less[i] = false
				if Follows(x, less) {
					t.Fatalf("%v: as late as can be, it follows without slot %d", x, i)
				}
			}
			if !early[i] {
				more := slices.Clone(early)
				more[i] = true
				if Follows(x, more) {
					t.Fatalf("%v: as early as can be, it follows with slot %d", x, i)
				}
			}
		}
	}
}

// P9.3: no, of a weight that may not be, whatever the row is.
func TestFollowsWrong(t *testing.T) {
	for _, x := range wrongWeights() {
		for _, l := range [][]bool{nil, {}, row("."), row("x"), row("x.x."), filled(100, false), filled(100, true)} {
			if Follows(x, l) {
				t.Errorf("Follows(%v, %v): true of a weight that may not be", x, l)
			}
		}
	}
}

// P9.4
func TestFairBetweenBounds(t *testing.T) {
	between := func(x api.Weight, slots, quanta int64) {
		t.Helper()
		want := quanta >= Low(x, slots) && quanta <= High(x, slots)
		if got := Fair(x, slots, quanta); got != want {
			t.Fatalf("Fair(%v, %d, %d): %t, where the bounds are %d, %d", x, slots, quanta, got, Low(x, slots), High(x, slots))
		}
	}
	for _, x := range small(24) {
		for slots := int64(0); slots <= 2*x.P+1; slots++ {
			for quanta := int64(0); quanta <= 2*x.E+4; quanta++ {
				between(x, slots, quanta)
			}
		}
	}
	each(func(x api.Weight, slots int64) {
		low, high := Low(x, slots), High(x, slots)
		if low > high || high-low > 1 {
			t.Fatalf("Low and High of %v at %d: %d, %d", x, slots, low, high)
		}
		for _, quanta := range []int64{0, low - 2, low - 1, low, high, high + 1, high + 2, top} {
			if quanta >= 0 && quanta <= top {
				between(x, slots, quanta)
			}
		}
	})
	drawn(between)
}

// R3: a row stays as it is, what lies behind it too.
func TestRowStays(t *testing.T) {
	for _, text := range []string{"x..x.", "...", "xxx", "", "x..x.x..x."} {
		whole := append(row(text), true, false, true)
		l := whole[:len(text)]
		was := slices.Clone(whole)
		Runs(l)
		Follows(w(2, 5), l)
		Follows(w(1, 1), l)
		Follows(w(0, 1), l)
		if !slices.Equal(whole, was) {
			t.Errorf("the row %q is %v now", text, whole)
		}
	}
}

// R3, R4: nothing is kept: a row that is changed is told as it is now, and other calls between change nothing.
func TestNothingKept(t *testing.T) {
	l := row("x..x.")
	for range 3 {
		if !Follows(w(2, 5), l) || Runs(l) != 2 {
			t.Fatalf("%v of 2/5: does not follow, or %d runs", l, Runs(l))
		}
		l[1] = true
		if Follows(w(2, 5), l) || Runs(l) != 3 {
			t.Fatalf("%v of 2/5: follows, or %d runs", l, Runs(l))
		}
		l[1] = false
		bounds(t, w(2, 3), 4, 2, 3, true)
		refused(t, w(2, 3), -1, 0)
		held(t, w(2, 3), 4, 2)
	}
}
