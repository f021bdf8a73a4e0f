package hold

import (
	"fmt"
	"math"
	"math/big"
	"math/rand"
	"slices"
	"testing"

	"regatta/api"
	"regatta/ratio"
)

const (
	top   = api.MaxP
	most  = math.MaxInt64
	least = math.MinInt64
)

func w(e, p int64) api.Weight { return api.Weight{E: e, P: p} }

// none is the weight of who asked for none, and what is handed to Fits where nothing is held less.
var none = api.Weight{}

// some are weights that may be: light ones, heavy ones, 1, small and great ones, some as much as others, some with periods that have nothing in common.
func some() []api.Weight {
	return []api.Weight{
		w(1, 1), w(5, 5), w(top, top), w(1, 2), w(2, 4), w(top/2, top), w(1, 3), w(2, 6), w(2, 3), w(3, 4), w(1, 6), w(1, 7), w(8, 11), w(3, 13),
		w(1, top), w(2, top), w(top-1, top), w(top/2+1, top), w(1, top-1), w(top-2, top-1), w(1, 1048573), w(524286, 1048573), w(1, 1048571), w(1000000, 1048559),
	}
}

// wrong are weights that may not be.
func wrong() []api.Weight {
	return []api.Weight{
		{}, w(0, 1), w(0, 7), w(0, top), w(-1, 1), w(-1, 7), w(-3, 7), w(1, 0), w(1, -1), w(-1, -1), w(-7, -3), w(0, -1), w(-1, 0),
		w(2, 1), w(8, 7), w(top, top-1), w(top+1, top), w(1<<32+1, 2), w(1, 1<<32+2),
		w(1, top+1), w(top, top+1), w(top+1, top+1), w(1, most), w(most, most), w(most, 1), w(1<<62, 1<<62),
		w(least, least), w(least, 1), w(1, least), w(least, most), w(most, least), w(0, least), w(0, most), w(least, 7), w(most, 7),
	}
}

// ids are numbers that a holder may have: any.
func ids() []int {
	return []int{0, 1, -1, 2, 63, 64, 1 << 32, -1 << 32, most, most - 1, least, least + 1}
}

// row is the limbs of n, without a 0 at their end.
func row(n *big.Int) []uint32 {
	var a []uint32
	for rest := new(big.Int).Set(n); rest.Sign() > 0; rest.Rsh(rest, 32) {
		a = append(a, uint32(new(big.Int).And(rest, big.NewInt(math.MaxUint32)).Uint64()))
	}
	return a
}

// made is the ratio of two decimal texts, as it is written.
func made(num, den string) api.Ratio {
	x, _ := new(big.Int).SetString(num, 10)
	y, _ := new(big.Int).SetString(den, 10)
	return api.Ratio{Num: row(x), Den: row(y)}
}

// toRat is how much a is.
func toRat(a api.Ratio) *big.Rat {
	number := func(a []uint32) *big.Int {
		n := new(big.Int)
		for _, limb := range slices.Backward(a) {
			n.Lsh(n, 32).Add(n, big.NewInt(int64(limb)))
		}
		return n
	}
	return new(big.Rat).SetFrac(number(a.Num), number(a.Den))
}

// fromRat is the least ratio that is as much as x: a Rat is kept that way.
func fromRat(x *big.Rat) api.Ratio { return api.Ratio{Num: row(x.Num()), Den: row(x.Denom())} }

func equal(a, b api.Ratio) bool { return slices.Equal(a.Num, b.Num) && slices.Equal(a.Den, b.Den) }

func same(t *testing.T, what string, got, want any) {
	t.Helper()
	if got != want {
		t.Fatalf("%s: %v, want %v", what, got, want)
	}
}

// tells holds Held and Left against what they should be, written as decimal digits.
func tells(t *testing.T, l *Ledger, held, left api.Ratio) {
	t.Helper()
	if got := l.Held(); !equal(got, held) {
		t.Fatalf("Held: %v, want %v", got, held)
	}
	if got := l.Left(); !equal(got, left) {
		t.Fatalf("Left: %v, want %v", got, left)
	}
}

// ledger is one that there must be, of num by den.
func ledger(t *testing.T, num, den string) *Ledger {
	t.Helper()
	l := New(made(num, den))
	if l == nil {
		t.Fatalf("New(%s/%s): nil", num, den)
	}
	return l
}

// whole is a ledger of n that there must be, which have joined with the numbers 1 and on.
func whole(t *testing.T, n uint64, joined ...api.Weight) *Ledger {
	t.Helper()
	l := New(ratio.Whole(n))
	for i, w := range joined {
		same(t, fmt.Sprint("Join ", w), l.Join(i+1, w), api.OK)
	}
	return l
}

// of is what a ledger tells of a number.
type of struct {
	now, next api.Weight
	ok        bool
}

func tell(now, next api.Weight, ok bool) of { return of{now, next, ok} }

// look is all that a ledger tells, but for Fits.
type look struct {
	held, left api.Ratio
	holders    []of
	n          int
}

func stands(l *Ledger, ids []int) look {
	s := look{held: l.Held(), left: l.Left(), n: l.Len()}
	for _, id := range ids {
		s.holders = append(s.holders, tell(l.Of(id)))
	}
	return s
}

func alike(a, b look) bool {
	return equal(a.held, b.held) && equal(a.left, b.left) && slices.Equal(a.holders, b.holders) && a.n == b.n
}

// plain is a ledger as the chapter tells it, by plain sums of fractions.
type plain struct {
	all       *big.Rat
	now, next map[int]api.Weight
}

func newPlain(all api.Ratio) *plain {
	return &plain{toRat(all), map[int]api.Weight{}, map[int]api.Weight{}}
}

func may(w api.Weight) bool { return w.E >= 1 && w.E <= w.P && w.P <= 1<<20 }

func frac(w api.Weight) *big.Rat { return big.NewRat(w.E, w.P) }

func (p *plain) holds(id int) *big.Rat {
	now := frac(p.now[id])
	if w, asked := p.next[id]; asked && frac(w).Cmp(now) > 0 {
		return frac(w)
	}
	return now
}

func (p *plain) held() *big.Rat {
	sum := new(big.Rat)
	for id := range p.now {
		sum.Add(sum, p.holds(id))
	}
	return sum
}

func (p *plain) join(id int, w api.Weight) api.Errno {
	_, there := p.now[id]
	switch {
	case !may(w):
		return api.ErrArg
	case there:
		return api.ErrThere
	}
	p.now[id] = w
	if p.held().Cmp(p.all) > 0 {
		delete(p.now, id)
		return api.ErrQuota
	}
	return api.OK
}

func (p *plain) ask(id int, w api.Weight) api.Errno {
	_, there := p.now[id]
	_, asked := p.next[id]
	switch {
	case !may(w):
		return api.ErrArg
	case !there:
		return api.ErrNone
	case asked:
		return api.ErrState
	}
	p.next[id] = w
	if p.held().Cmp(p.all) > 0 {
		delete(p.next, id)
		return api.ErrQuota
	}
	return api.OK
}

func (p *plain) settle(id int) api.Errno {
	_, there := p.now[id]
	next, asked := p.next[id]
	switch {
	case !there:
		return api.ErrNone
	case !asked:
		return api.ErrState
	}
	p.now[id] = next
	delete(p.next, id)
	return api.OK
}

func (p *plain) free(id int) api.Errno {
	if _, there := p.now[id]; !there {
		return api.ErrNone
	}
	delete(p.now, id)
	delete(p.next, id)
	return api.OK
}

func (p *plain) fits(w, in api.Weight) bool {
	if !may(w) {
		return false
	}
	sum := p.held()
	sum.Add(sum, frac(w))
	if may(in) {
		sum.Sub(sum, frac(in))
	}
	return sum.Sign() >= 0 && sum.Cmp(p.all) <= 0
}

func (p *plain) stands(ids []int) look {
	held := p.held()
	s := look{held: fromRat(held), left: fromRat(new(big.Rat).Sub(p.all, held)), n: len(p.now)}
	for _, id := range ids {
		now, there := p.now[id]
		s.holders = append(s.holders, of{now, p.next[id], there})
	}
	return s
}

// call is one that changes a ledger, or is refused.
type call struct {
	what string
	id   int
	w    api.Weight
}

func (c call) do(l *Ledger) api.Errno {
	switch c.what {
	case "Join":
		return l.Join(c.id, c.w)
	case "Ask":
		return l.Ask(c.id, c.w)
	case "Settle":
		return l.Settle(c.id)
	}
	return l.Free(c.id)
}

func (c call) plainly(p *plain) api.Errno {
	switch c.what {
	case "Join":
		return p.join(c.id, c.w)
	case "Ask":
		return p.ask(c.id, c.w)
	case "Settle":
		return p.settle(c.id)
	}
	return p.free(c.id)
}

// step does c, and holds what is told, and all that is told then, against a plain ledger; what is refused changes nothing.
func step(t *testing.T, l *Ledger, p *plain, c call, ids []int) {
	t.Helper()
	before := p.stands(ids)
	got, want := c.do(l), c.plainly(p)
	if got != want {
		t.Fatalf("%v: error %d, want %d", c, got, want)
	}
	after, should := stands(l, ids), p.stands(ids)
	if !alike(after, should) {
		t.Fatalf("%v: stands as %v, want %v", c, after, should)
	}
	if got != api.OK && !alike(before, after) {
		t.Fatalf("%v: refused, but stands as %v, and stood as %v", c, after, before)
	}
	if p.held().Cmp(p.all) > 0 {
		t.Fatalf("%v: more is held than there is", c)
	}
}

// P12.1: the chapter's example.
func TestExample(t *testing.T) {
	l := whole(t, 1)
	same(t, "Join 1/2", l.Join(1, w(1, 2)), api.OK)
	same(t, "Join 2/3", l.Join(2, w(2, 3)), api.ErrQuota)
	same(t, "Ask 3/4", l.Ask(1, w(3, 4)), api.OK)
	same(t, "Join 1/3", l.Join(2, w(1, 3)), api.ErrQuota)
	tells(t, l, made("3", "4"), made("1", "4"))
	same(t, "Of 1", tell(l.Of(1)), of{w(1, 2), w(3, 4), true})
	same(t, "Of 2", tell(l.Of(2)), of{})
	same(t, "Len", l.Len(), 1)
}

// noRatios are ratios that may not be.
func noRatios() []api.Ratio {
	return []api.Ratio{
		{}, {Num: []uint32{}, Den: []uint32{}}, {Num: []uint32{1}}, {Num: []uint32{1}, Den: []uint32{}},
		{Den: []uint32{0}}, {Num: []uint32{1}, Den: []uint32{0}}, {Num: []uint32{1}, Den: []uint32{0, 0}},
		{Num: []uint32{0}, Den: []uint32{1}}, {Num: []uint32{1, 0}, Den: []uint32{2}}, {Num: []uint32{1}, Den: []uint32{2, 0}},
		{Num: []uint32{5, 6, 0}, Den: []uint32{7, 8}}, {Num: []uint32{5, 6}, Den: []uint32{7, 8, 0}}, {Num: make([]uint32, 9), Den: make([]uint32, 9)},
	}
}

// alls are ratios that may be, those of 0, and those that are not in lowest terms among them.
func alls() []api.Ratio {
	return []api.Ratio{
		made("1", "1"), made("2", "1"), made("3", "4"), made("6", "4"), made("1000", "1000"), made("7", "3"), made("1024", "1"), made("41", "42"),
		made("0", "1"), made("0", "7"), {Num: []uint32{}, Den: []uint32{1}}, made("0", "36893488147419103232"),
		made("1", "1048576"), made("1048575", "1048576"), made("1099511627775", "1099511627776"), made("2147483648", "4294967296"),
		made("170141183460469231731687303715884105727", "340282366920938463463374607431768211456"), made("36893488147419103232", "36893488147419103232"),
		made("340282366920938463463374607431768211456", "170141183460469231731687303715884105727"), made("1", "340282366920938463463374607431768211456"),
		{Num: append(make([]uint32, 5), 1), Den: append(make([]uint32, 5), 3)},
	}
}

// P12.1: which ledgers there are.
func TestNew(t *testing.T) {
	for _, all := range noRatios() {
		if l := New(all); l != nil {
			t.Errorf("New(%v): a ledger", all)
		}
	}
	for _, all := range alls() {
		l := New(all)
		if l == nil {
			t.Fatalf("New(%v): nil", all)
		}
		tells(t, l, ratio.Whole(0), fromRat(toRat(all)))
		same(t, "Len", l.Len(), 0)
		for _, id := range ids() {
			same(t, "Of", tell(l.Of(id)), of{})
			same(t, "Settle", l.Settle(id), api.ErrNone)
			same(t, "Free", l.Free(id), api.ErrNone)
			same(t, "Ask", l.Ask(id, w(1, 2)), api.ErrNone)
		}
	}
}

// P12.1: of nothing, nothing fits, but nothing.
func TestNothing(t *testing.T) {
	for _, den := range []string{"1", "7", "36893488147419103232"} {
		l := ledger(t, "0", den)
		for _, x := range some() {
			same(t, fmt.Sprint("Join ", x), l.Join(1, x), api.ErrQuota)
			same(t, fmt.Sprint("Fits ", x), l.Fits(x, none), false)
			same(t, fmt.Sprint("Fits, as much less ", x), l.Fits(x, x), true)
		}
		tells(t, l, ratio.Whole(0), ratio.Whole(0))
		same(t, "Len", l.Len(), 0)
	}
}

// P12.1: weights that may not be are refused ahead of all else: of no holder, of one, of one that asked, with room or without.
func TestWrongWeights(t *testing.T) {
	l := whole(t, 1, w(1, 2), w(1, 4), w(1, 4))
	same(t, "Ask", l.Ask(2, w(1, 8)), api.OK)
	roomy := whole(t, 9, w(1, 2))
	for _, x := range wrong() {
		for _, l := range []*Ledger{l, roomy, ledger(t, "0", "1")} {
			before := stands(l, []int{1, 2, 3, 4})
			for _, id := range append(ids(), 3, 4) {
				same(t, fmt.Sprint("Join ", x), l.Join(id, x), api.ErrArg)
				same(t, fmt.Sprint("Ask ", x), l.Ask(id, x), api.ErrArg)
			}
			for _, in := range slices.Concat(some(), wrong()) {
				same(t, fmt.Sprint("Fits ", x, in), l.Fits(x, in), false)
			}
			if !alike(before, stands(l, []int{1, 2, 3, 4})) {
				t.Fatalf("%v changed what is told", x)
			}
		}
	}
}

// P12.1: all weights that may be can be held.
func TestWeights(t *testing.T) {
	for _, x := range some() {
		l := whole(t, 1, x)
		same(t, "Of", tell(l.Of(1)), of{x, none, true})
		tells(t, l, fromRat(frac(x)), fromRat(new(big.Rat).Sub(big.NewRat(1, 1), frac(x))))
		for _, y := range some() {
			same(t, fmt.Sprint("Ask ", y), l.Ask(1, y), api.OK)
			same(t, "Of", tell(l.Of(1)), of{x, y, true})
			same(t, "Settle", l.Settle(1), api.OK)
			same(t, "Of", tell(l.Of(1)), of{y, none, true})
			tells(t, l, fromRat(frac(y)), fromRat(new(big.Rat).Sub(big.NewRat(1, 1), frac(y))))
			same(t, "Free", l.Free(1), api.OK)
			same(t, "Join", l.Join(1, x), api.OK)
		}
	}
}

// P12.1: which error goes first, where more than one would do.
func TestErrors(t *testing.T) {
	l := whole(t, 1, w(1, 2), w(1, 2))
	same(t, "Join: may not be, is there, is too much", l.Join(1, w(3, 2)), api.ErrArg)
	same(t, "Join: is there, is too much", l.Join(1, w(1, 2)), api.ErrThere)
	same(t, "Join: is too much", l.Join(3, w(1, 2)), api.ErrQuota)
	same(t, "Ask: may not be, is not there", l.Ask(3, w(0, 2)), api.ErrArg)
	same(t, "Ask: is not there, is too much", l.Ask(3, w(1, 2)), api.ErrNone)
	same(t, "Ask: is too much", l.Ask(1, w(2, 3)), api.ErrQuota)
	same(t, "Ask: of another one", l.Ask(1, w(1, 3)), api.OK)
	same(t, "Ask: may not be, has asked", l.Ask(1, w(3, 2)), api.ErrArg)
	same(t, "Ask: has asked, is too much", l.Ask(1, w(1, 1)), api.ErrState)
	same(t, "Ask: has asked", l.Ask(1, w(1, 3)), api.ErrState)
	same(t, "Join: is there, and has asked", l.Join(1, w(1, 9)), api.ErrThere)
	same(t, "Settle: is not there", l.Settle(3), api.ErrNone)
	same(t, "Settle: has not asked", l.Settle(2), api.ErrState)
	same(t, "Free: is not there", l.Free(3), api.ErrNone)
	tells(t, l, made("1", "1"), made("0", "1"))
	same(t, "Settle", l.Settle(1), api.OK)
	same(t, "Settle: has asked no more", l.Settle(1), api.ErrState)
	tells(t, l, made("5", "6"), made("1", "6"))
}

// P12.1: a share that fits just, and one that is above by the least part.
func TestJust(t *testing.T) {
	for _, x := range []struct {
		num, den string
		hold     []api.Weight
		just     api.Weight
		above    []api.Weight
	}{
		{"1", "1", nil, w(1, 1), nil},
		{"1", "1", []api.Weight{w(1, 2), w(1, 3), w(1, 7)}, w(1, 42), []api.Weight{w(1, 41), w(2, 83), w(25000, top-1)}},
		{"1", "1", []api.Weight{w(top-1, top)}, w(1, top), []api.Weight{w(1, top-1), w(2, top)}},
		{"1", "1", []api.Weight{w(top-2, top-1)}, w(1, top-1), []api.Weight{w(1, top-2), w(1, 1048573), w(2, top)}},
		{"1", "2", []api.Weight{w(1, 3)}, w(1, 6), []api.Weight{w(1, 5), w(174763, top), w(174764, 1048573)}},
		{"6", "4", []api.Weight{w(1, 1)}, w(1, 2), []api.Weight{w(524287, 1048573), w(top/2+1, top)}},
		{"41", "42", []api.Weight{w(1, 2), w(1, 3)}, w(1, 7), []api.Weight{w(1, 6), w(149797, top)}},
		{"1", "1048576", nil, w(1, top), []api.Weight{w(1, top-1), w(2, top), w(1, 1)}},
		{"1099511627775", "1099511627776", []api.Weight{w(1, 2)}, w(524287, top), []api.Weight{w(1, 2), w(top/2, top)}},
		{"2", "1", []api.Weight{w(2, 3), w(1, 1)}, w(1, 3), []api.Weight{w(1, 2), w(349526, top)}},
		{"1024", "1", slices.Repeat([]api.Weight{w(1, 1)}, 1023), w(1, 1), nil},
	} {
		l := ledger(t, x.num, x.den)
		for i, h := range x.hold {
			same(t, fmt.Sprint("Join ", h), l.Join(i, h), api.OK)
		}
		for _, a := range x.above {
			same(t, fmt.Sprint("Fits ", a), l.Fits(a, none), false)
			same(t, fmt.Sprint("Join ", a), l.Join(-1, a), api.ErrQuota)
			same(t, "Len", l.Len(), len(x.hold))
		}
		same(t, fmt.Sprint("Fits ", x.just), l.Fits(x.just, none), true)
		same(t, fmt.Sprint("Join ", x.just), l.Join(-1, x.just), api.OK)
		for _, a := range x.above {
			same(t, fmt.Sprint("Ask ", a), l.Ask(-1, a), api.ErrQuota)
		}
		same(t, "Ask for as much", l.Ask(-1, x.just), api.OK)
	}
}

// P12.1: as much as there is, of long numbers, whose last part is one of 2^120: with it a share fits, without it none does.
func TestLongParts(t *testing.T) {
	hold := []api.Weight{w(1, top), w(3, 1048573), w(1000000, 1048571), w(7, 1048559), w(12345, 1048549)}
	sum := new(big.Rat)
	for _, h := range hold {
		sum.Add(sum, frac(h))
	}
	part := new(big.Rat).SetFrac(big.NewInt(1), new(big.Int).Lsh(big.NewInt(1), 120))
	for _, x := range []struct {
		all         *big.Rat
		joins, asks api.Errno
	}{
		{sum, api.OK, api.ErrQuota},
		{new(big.Rat).Add(sum, part), api.OK, api.ErrQuota},
		{new(big.Rat).Sub(sum, part), api.ErrQuota, api.OK}, // as the last one did not join
	} {
		l := New(fromRat(x.all))
		last := len(hold) - 1
		for i, h := range hold[:last] {
			same(t, fmt.Sprint("Join ", h), l.Join(i, h), api.OK)
		}
		same(t, "the last Join", l.Join(last, hold[last]), x.joins)
		if x.joins == api.OK {
			tells(t, l, fromRat(sum), fromRat(new(big.Rat).Sub(x.all, sum)))
		}
		// Who asks for more needs it as who joins does.
		same(t, "Ask", l.Ask(0, w(1, 1048571)), x.asks)
	}
}

// P12.1: what is held while who asked for less, for as much, and for more, waits, and behind that.
func TestAsk(t *testing.T) {
	for _, x := range []struct {
		now, next   api.Weight
		held, after string
	}{
		{w(1, 2), w(1, 3), "1/2", "1/3"},
		{w(1, 2), w(1, 2), "1/2", "1/2"},
		{w(1, 2), w(4, 8), "1/2", "1/2"},
		{w(4, 8), w(1, 2), "1/2", "1/2"},
		{w(1, 2), w(2, 3), "2/3", "2/3"},
		{w(1, 2), w(1, 1), "1", "1"},
		{w(1, 1), w(1, top), "1", "1/1048576"},
		{w(1, top), w(1, top-1), "1/1048575", "1/1048575"},
		{w(1, top-1), w(1, top), "1/1048575", "1/1048576"},
		{w(2, 3), w(3, 5), "2/3", "3/5"},
		{w(3, 5), w(2, 3), "2/3", "2/3"},
		{w(top-2, top-1), w(top-1, top), "1048575/1048576", "1048575/1048576"},
		{w(top-1, top), w(top-2, top-1), "1048575/1048576", "1048574/1048575"},
	} {
		l := whole(t, 1, x.now)
		same(t, "Ask", l.Ask(1, x.next), api.OK)
		same(t, fmt.Sprint("Held behind Ask ", x), ratio.Text(l.Held()), x.held)
		same(t, "Of", tell(l.Of(1)), of{x.now, x.next, true})
		same(t, "Ask again", l.Ask(1, x.next), api.ErrState)
		same(t, "Settle", l.Settle(1), api.OK)
		same(t, fmt.Sprint("Held behind Settle ", x), ratio.Text(l.Held()), x.after)
		same(t, "Of", tell(l.Of(1)), of{x.next, none, true})
		same(t, "Settle again", l.Settle(1), api.ErrState)
		same(t, "Ask for what was", l.Ask(1, x.now), api.OK)
	}
}

// P12.1: who asked for less leaves room for others just when it has settled; who asked for more takes it at once.
func TestRoom(t *testing.T) {
	l := whole(t, 1, w(2, 3))
	same(t, "Ask for less", l.Ask(1, w(1, 3)), api.OK)
	same(t, "Join ahead of Settle", l.Join(2, w(1, 2)), api.ErrQuota)
	same(t, "Join of what is left", l.Join(3, w(1, 3)), api.OK)
	same(t, "Settle", l.Settle(1), api.OK)
	same(t, "Join behind Settle: too much", l.Join(2, w(1, 2)), api.ErrQuota)
	same(t, "Join behind Settle", l.Join(2, w(1, 3)), api.OK)
	same(t, "Free", l.Free(3), api.OK)
	same(t, "Ask for more", l.Ask(2, w(2, 3)), api.OK)
	same(t, "Join ahead of Settle", l.Join(3, w(1, top)), api.ErrQuota)
	same(t, "Ask of another one", l.Ask(1, w(1, 2)), api.ErrQuota)
	same(t, "Free of who asked for more", l.Free(2), api.OK)
	same(t, "Ask then", l.Ask(1, w(1, 2)), api.OK)
	tells(t, l, made("1", "2"), made("1", "2"))
	same(t, "Free of who asked", l.Free(1), api.OK)
	tells(t, l, made("0", "1"), made("1", "1"))
}

// P12.1: who is freed has nothing, and asked for nothing, and its number can be taken again.
func TestFree(t *testing.T) {
	l := whole(t, 2, w(1, 2), w(2, 3))
	same(t, "Ask", l.Ask(1, w(3, 4)), api.OK)
	same(t, "Free", l.Free(1), api.OK)
	same(t, "Of", tell(l.Of(1)), of{})
	same(t, "Len", l.Len(), 1)
	tells(t, l, made("2", "3"), made("4", "3"))
	same(t, "Free again", l.Free(1), api.ErrNone)
	same(t, "Settle", l.Settle(1), api.ErrNone)
	same(t, "Ask", l.Ask(1, w(1, 2)), api.ErrNone)
	same(t, "Join", l.Join(1, w(1, 5)), api.OK)
	same(t, "Of", tell(l.Of(1)), of{w(1, 5), none, true})
	same(t, "Settle", l.Settle(1), api.ErrState)
	same(t, "Ask", l.Ask(1, w(1, 6)), api.OK)
	same(t, "Of the other one", tell(l.Of(2)), of{w(2, 3), none, true})
	tells(t, l, made("13", "15"), made("17", "15"))
}

// P12.1: all numbers are holders' numbers.
func TestIDs(t *testing.T) {
	l := whole(t, 64)
	for i, id := range ids() {
		same(t, "Of ahead of Join", tell(l.Of(id)), of{})
		same(t, "Join", l.Join(id, w(1, int64(i)+2)), api.OK)
		same(t, "Join again", l.Join(id, w(1, 2)), api.ErrThere)
		same(t, "Len", l.Len(), i+1)
	}
	for i, id := range ids() {
		same(t, "Ask", l.Ask(id, w(1, int64(i)+20)), api.OK)
		same(t, "Of", tell(l.Of(id)), of{w(1, int64(i)+2), w(1, int64(i)+20), true})
	}
	for i, id := range ids() {
		same(t, "Settle", l.Settle(id), api.OK)
		same(t, "Of", tell(l.Of(id)), of{w(1, int64(i)+20), none, true})
	}
	for i, id := range ids() {
		same(t, "Free", l.Free(id), api.OK)
		same(t, "Of", tell(l.Of(id)), of{})
		same(t, "Len", l.Len(), len(ids())-i-1)
	}
	tells(t, l, made("0", "1"), made("64", "1"))
}

// P12.2: what is held and left, as the least ratios.
func TestTold(t *testing.T) {
	for _, x := range []struct {
		num, den   string
		hold       []api.Weight
		held, left api.Ratio
	}{
		{"1", "1", nil, made("0", "1"), made("1", "1")},
		{"6", "4", nil, made("0", "1"), made("3", "2")},
		{"0", "9", nil, made("0", "1"), made("0", "1")},
		{"1", "1", []api.Weight{w(2, 4)}, made("1", "2"), made("1", "2")},
		{"1", "1", []api.Weight{w(1, 6), w(1, 3)}, made("1", "2"), made("1", "2")},
		{"1", "1", []api.Weight{w(1, 2), w(1, 3), w(1, 6)}, made("1", "1"), made("0", "1")},
		{"4", "2", []api.Weight{w(2, 3), w(1, 1)}, made("5", "3"), made("1", "3")},
		{"10", "15", []api.Weight{w(1, 6)}, made("1", "6"), made("1", "2")},
		{"3", "1", slices.Repeat([]api.Weight{w(1, 1)}, 3), made("3", "1"), made("0", "1")},
		{"1", "1", []api.Weight{w(1, top), w(1, top-1)}, made("2097151", "1099510579200"), made("1099508482049", "1099510579200")},
		{"1", "1", slices.Repeat([]api.Weight{w(1, top)}, 64), made("1", "16384"), made("16383", "16384")},
		{"2147483648", "4294967296", []api.Weight{w(1, 3)}, made("1", "3"), made("1", "6")},
	} {
		l := ledger(t, x.num, x.den)
		for i, h := range x.hold {
			same(t, fmt.Sprint("Join ", h), l.Join(i, h), api.OK)
		}
		tells(t, l, x.held, x.left)
		tells(t, l, x.held, x.left)
		same(t, "Len", l.Len(), len(x.hold))
	}
}

// P12.2: what fits, if something is held more, and something less.
func TestFits(t *testing.T) {
	l := whole(t, 1, w(1, 2), w(1, 4))
	for _, x := range []struct {
		w, in api.Weight
		want  bool
	}{
		{w(1, 4), none, true}, {w(1, 3), none, false}, {w(2, 8), none, true}, {w(262145, top), none, false},
		{w(1, 2), w(1, 4), true}, {w(3, 4), w(1, 2), true}, {w(3, 4), w(1, 3), false}, {w(3, 4), w(524287, top), false},
		{w(1, 1), w(3, 4), true}, {w(1, 1), w(1, 1), true}, {w(1, 1), w(2, 3), false},
		{w(1, 4), w(1, 1), true},             // just as much as is held, and w, together
		{w(1, 5), w(1, 1), false},            // more than these
		{w(262143, top), w(1, 1), false},     // more by the least part
		{w(262145, top), w(1, 1), true},      // less by the least part
		{w(262145, top), w(1, top), true},    // and that fits just
		{w(262146, top), w(1, top), false},   // and that does not
		{w(262145, top), w(1, top-1), true},  // with a part more than needs be
		{w(262144, top), w(0, 1), true},      // what may not be counts 0:
		{w(262145, top), w(-1, 1), false},    // and not below
		{w(262145, top), w(5, 1), false},     // or above
		{w(262145, top), w(1, top+1), false}, // though it would be enough
		{w(1, 4), w(2, 1), true},             // or too much
		{w(1, 1), w(most, most), false},
		{w(1, 4), w(least, least), true},
	} {
		same(t, fmt.Sprint("Fits ", x.w, x.in), l.Fits(x.w, x.in), x.want)
	}
	tells(t, l, made("3", "4"), made("1", "4"))
	same(t, "Len", l.Len(), 2)
}

// P12.2: all pairs of weights, those that may not be among them, at ledgers of some kinds: without holders, with some that asked, full.
func TestFitsOfAll(t *testing.T) {
	for _, all := range alls() {
		l, p := New(all), newPlain(all)
		calls := []call{{}, {"Join", 1, w(1, 3)}, {"Join", 2, w(1, 7)}, {"Ask", 1, w(1, 4)}, {"Ask", 2, w(3, 13)}, {"Join", 3, w(1, top)}, {"Join", 4, w(2, 3)}, {"Join", 5, w(1, 1)}}
		for _, c := range calls {
			c.do(l)
			c.plainly(p)
			for _, x := range slices.Concat(some(), wrong()[:15]) {
				for _, in := range slices.Concat(some(), wrong()) {
					if got, want := l.Fits(x, in), p.fits(x, in); got != want {
						t.Fatalf("of %v, behind %v, Fits(%v, %v): %t, want %t", all, c, x, in, got, want)
					}
				}
			}
		}
	}
}

// P12.2 and P12.1: who asks is let just if what it holds more fits.
func TestFitsIsAsked(t *testing.T) {
	for _, x := range some() {
		for _, y := range some() {
			l := whole(t, 1)
			l.Join(1, w(1, 7))
			if l.Join(2, x) != api.OK {
				continue
			}
			fits := l.Fits(y, x) || frac(y).Cmp(frac(x)) < 0
			same(t, fmt.Sprint("Ask ", x, y), l.Ask(2, y) == api.OK, fits)
		}
	}
}

// calls are some by which a ledger of 1 may be full, and errors met.
func calls() []call {
	return []call{
		{"Join", 1, w(1, 2)}, {"Join", 1, w(1, 3)}, {"Join", 2, w(1, 2)}, {"Join", 2, w(2, 3)}, {"Join", 1, w(2, 1)},
		{"Ask", 1, w(1, 3)}, {"Ask", 1, w(2, 3)}, {"Ask", 2, w(1, 2)}, {"Ask", 2, w(0, 1)},
		{"Settle", 1, none}, {"Settle", 2, none}, {"Free", 1, none}, {"Free", 2, none},
	}
}

// P12.1 to P12.3: all rows of four calls.
func TestRows(t *testing.T) {
	all, few := ratio.Whole(1), []int{1, 2, 3}
	n := len(calls())
	for row := range n * n * n * n {
		l, p := New(all), newPlain(all)
		rest := row
		for range 3 {
			c := calls()[rest%n]
			if got, want := c.do(l), c.plainly(p); got != want {
				t.Fatalf("row %d: %v: error %d, want %d", row, c, got, want)
			}
			rest /= n
		}
		step(t, l, p, calls()[rest], few)
	}
}

// weight is any weight: one of some, of a small period, of a great one, or one that may not be.
func weight(r *rand.Rand) api.Weight {
	switch r.Intn(8) {
	case 0:
		return some()[r.Intn(len(some()))]
	case 1:
		return wrong()[r.Intn(len(wrong()))]
	case 2:
		p := r.Int63n(top) + 1
		return w(r.Int63n(p)/16+1, p)
	}
	p := r.Int63n(12) + 1
	return w(r.Int63n(p)/2+1, p)
}

// P12.1 to P12.3: many calls by chance, held against plain sums.
func TestManyCalls(t *testing.T) {
	r := rand.New(rand.NewSource(12))
	numbers := append(ids(), 3, 4, 5, 6, 7, 8)
	for round := range 8 {
		for _, all := range alls() {
			l, p := New(all), newPlain(all)
			for range 60 + 10*round {
				c := call{[]string{"Join", "Join", "Ask", "Settle", "Free"}[r.Intn(5)], numbers[r.Intn(len(numbers))], weight(r)}
				step(t, l, p, c, numbers)
				x, in := weight(r), weight(r)
				if got, want := l.Fits(x, in), p.fits(x, in); got != want {
					t.Fatalf("Fits(%v, %v): %t, want %t", x, in, got, want)
				}
			}
		}
	}
}

// P12.2: many holders, of all periods, so that the sum's numbers are long.
func TestManyHolders(t *testing.T) {
	l, p := whole(t, 1024), newPlain(ratio.Whole(1024))
	for i := range 150 {
		x := w(int64(i)+1, top-int64(i)*int64(i))
		same(t, "Join", l.Join(i, x), api.OK)
		p.join(i, x)
	}
	tells(t, l, fromRat(p.held()), fromRat(new(big.Rat).Sub(p.all, p.held())))
	for i := range 150 {
		same(t, "Free", l.Free(i), api.OK)
	}
	tells(t, l, made("0", "1"), made("1024", "1"))
}

// P12.3: nothing that is refused changes what is told, though it is asked for again and again.
func TestRefused(t *testing.T) {
	l := whole(t, 1, w(1, 2), w(1, 4), w(1, 8))
	same(t, "Ask", l.Ask(1, w(1, 3)), api.OK)
	same(t, "Ask", l.Ask(2, w(1, 3)), api.OK)
	few := []int{0, 1, 2, 3, 4}
	before := stands(l, few)
	for range 3 {
		for _, c := range []call{
			{"Join", 4, w(1, 2)}, {"Join", 4, w(1, 23)}, {"Join", 1, w(1, 100)}, {"Join", 2, w(0, 1)}, {"Join", 4, w(-1, 1)},
			{"Ask", 3, w(1, 1)}, {"Ask", 3, w(1, 5)}, {"Ask", 1, w(1, 2)}, {"Ask", 2, w(1, 3)}, {"Ask", 4, w(1, 100)}, {"Ask", 3, w(2, 1)},
			{"Settle", 3, none}, {"Settle", 4, none}, {"Free", 4, none}, {"Free", 0, none},
		} {
			if c.do(l) == api.OK {
				t.Fatalf("%v was not refused", c)
			}
			if !alike(before, stands(l, few)) {
				t.Fatalf("%v changed what is told", c)
			}
		}
	}
	tells(t, l, made("23", "24"), made("1", "24"))
}

// A nil ledger, in each call.
func TestNil(t *testing.T) {
	var l *Ledger
	for range 2 {
		for _, id := range ids() {
			for _, x := range slices.Concat(some(), wrong()) {
				same(t, "Join", l.Join(id, x), api.ErrArg)
				same(t, "Ask", l.Ask(id, x), api.ErrArg)
				same(t, "Fits", l.Fits(x, none), false)
				same(t, "Fits, as much less", l.Fits(x, x), false)
			}
			same(t, "Settle", l.Settle(id), api.ErrArg)
			same(t, "Free", l.Free(id), api.ErrArg)
			same(t, "Of", tell(l.Of(id)), of{})
		}
		tells(t, l, ratio.Whole(0), ratio.Whole(0))
		same(t, "Len", l.Len(), 0)
	}
}

// P1 and P12.3: one that no New made has nothing to hold, and no call of one panics.
func TestZero(t *testing.T) {
	var l Ledger
	for range 2 {
		for _, id := range ids() {
			for _, x := range some() {
				same(t, "Join", l.Join(id, x), api.ErrQuota)
				same(t, "Ask", l.Ask(id, x), api.ErrNone)
				same(t, "Fits", l.Fits(x, none), false)
			}
			for _, x := range wrong() {
				same(t, "Join", l.Join(id, x), api.ErrArg)
				same(t, "Ask", l.Ask(id, x), api.ErrArg)
				same(t, "Fits", l.Fits(x, x), false)
			}
			same(t, "Settle", l.Settle(id), api.ErrNone)
			same(t, "Free", l.Free(id), api.ErrNone)
			same(t, "Of", tell(l.Of(id)), of{})
		}
		tells(t, &l, ratio.Whole(0), ratio.Whole(0))
		same(t, "Len", l.Len(), 0)
	}
}

// spoil changes all limbs of a, and those behind its end that it could have in common with others.
func spoil(a api.Ratio) {
	for _, limbs := range [][]uint32{a.Num, a.Den} {
		limbs = limbs[:cap(limbs)]
		for i := range limbs {
			limbs[i] = limbs[i]*3 + 7
		}
	}
}

func copied(a api.Ratio) api.Ratio {
	return api.Ratio{Num: slices.Clone(a.Num), Den: slices.Clone(a.Den)}
}

// R3: a ratio that is handed in stays as it is, and may be changed behind New.
func TestHandedIn(t *testing.T) {
	for _, all := range alls() {
		given := copied(all)
		l := New(given)
		l.Join(1, w(1, 2))
		l.Ask(1, w(2, 3))
		l.Fits(w(1, 2), w(1, 3))
		l.Left()
		if !equal(given, all) {
			t.Fatalf("New changed %v to %v", all, given)
		}
		before := stands(l, []int{1})
		fits := l.Fits(w(1, 3), w(1, 2))
		spoil(given)
		if !alike(before, stands(l, []int{1})) || fits != l.Fits(w(1, 3), w(1, 2)) {
			t.Fatalf("the ledger of %v changed with what was handed in", all)
		}
	}
}

// R3: what is told is the caller's own, of a ledger without holders, with some, of a full one, a nil and a zero one.
func TestToldIsNew(t *testing.T) {
	ledgers := []*Ledger{nil, {}, whole(t, 1), whole(t, 3, w(1, 2), w(2, 3)), whole(t, 1, w(1, 1)), whole(t, 2, w(1, top), w(1, top-1), w(1, 1048573))}
	for _, all := range alls() {
		l := New(all)
		l.Join(1, w(1, top))
		ledgers = append(ledgers, New(all), l)
	}
	for i, l := range ledgers {
		before := stands(l, []int{1, 2})
		kept := look{held: copied(before.held), left: copied(before.left), holders: before.holders, n: before.n}
		held, left := l.Held(), l.Left()
		spoil(held)
		if !equal(left, kept.left) {
			t.Fatalf("ledger %d: Left changed with what Held told", i)
		}
		spoil(left)
		if !alike(before, kept) || !alike(kept, stands(l, []int{1, 2})) {
			t.Fatalf("ledger %d changed with what it told", i)
		}
	}
}

// R3: ledgers have nothing in common, though they are of the same ratio.
func TestApart(t *testing.T) {
	all := ratio.Whole(1)
	a, b := New(all), New(all)
	same(t, "Join", a.Join(1, w(2, 3)), api.OK)
	same(t, "Of", tell(b.Of(1)), of{})
	same(t, "Join", b.Join(1, w(1, 1)), api.OK)
	tells(t, a, made("2", "3"), made("1", "3"))
	tells(t, b, made("1", "1"), made("0", "1"))
}

// R4: the same calls have the same answers, whichever way the map is gone through.
func TestAgain(t *testing.T) {
	var first look
	for round := range 20 {
		l := whole(t, 5)
		for i, x := range some()[6:] {
			l.Join(i, x)
			l.Ask(i, some()[i])
		}
		numbers := []int{0, 1, 2, 3, 4, 5, 6, 7, 8, 9, 10, 11, 12, 13, 14, 15, 16, 17}
		if round == 0 {
			first = stands(l, numbers)
		}
		if !alike(first, stands(l, numbers)) {
			t.Fatalf("round %d: %v, want %v", round, stands(l, numbers), first)
		}
	}
}
