package quota

import (
	"fmt"
	"math"
	"math/big"
	"math/rand"
	"slices"
	"testing"

	"regatta/api"
	"regatta/ratio"
)

const (
	top   = api.MaxP
	most  = math.MaxInt64
	least = math.MinInt64
)

func w(e, p int64) api.Weight { return api.Weight{E: e, P: p} }

func at(parent int, e, p int64) api.Server { return api.Server{Parent: parent, Quota: w(e, p)} }

// some are weights that may be: light ones, heavy ones, 1, small and great ones, some as much as others, some with periods that have nothing in common.
func some() []api.Weight {
	return []api.Weight{
		w(1, 1), w(5, 5), w(top, top), w(1, 2), w(2, 4), w(top/2, top), w(1, 3), w(2, 6), w(2, 3), w(3, 4), w(1, 6), w(1, 7), w(8, 11), w(3, 13),
		w(1, top), w(2, top), w(top-1, top), w(top/2+1, top), w(1, top-1), w(top-2, top-1), w(1, 1048573), w(524286, 1048573), w(1000000, 1048559),
	}
}

// wrong are weights that may not be.
func wrong() []api.Weight {
	return []api.Weight{
		{}, w(0, 1), w(0, 7), w(0, top), w(-1, 1), w(-1, 7), w(1, 0), w(1, -1), w(-1, -1), w(-7, -3), w(0, -1), w(-1, 0),
		w(2, 1), w(8, 7), w(top, top-1), w(top+1, top), w(1<<30, 1), w(1<<32+1, 2), w(1, 1<<32+2),
		w(1, top+1), w(top, top+1), w(top+1, top+1), w(1, most), w(most, most), w(most, 1),
		w(least, least), w(least, 1), w(1, least), w(least, most), w(most, least), w(0, least), w(0, most),
	}
}

// ids are numbers that a holder may have: any.
func ids() []int {
	return []int{0, 1, -1, -2, 2, 63, 64, 1 << 32, -1 << 32, most, most - 1, least, least + 1}
}

// outside are numbers that are no server's, and not the whole's, of a tree of n servers.
func outside(n int) []int {
	return []int{-2, -3, n, n + 1, 16, 17, 1 << 32, -1 << 32, 1<<32 - 1, most, most - 1, least, least + 1}
}

func row16(s api.Server) []api.Server { return slices.Repeat([]api.Server{s}, 16) }

// row is the limbs of n, without a 0 at their end.
func row(n *big.Int) []uint32 {
	var a []uint32
	for rest := new(big.Int).Set(n); rest.Sign() > 0; rest.Rsh(rest, 32) {
		a = append(a, uint32(new(big.Int).And(rest, big.NewInt(math.MaxUint32)).Uint64()))
	}
	return a
}

// made is the ratio of two decimal texts, as it is written.
func made(num, den string) api.Ratio {
	x, _ := new(big.Int).SetString(num, 10)
	y, _ := new(big.Int).SetString(den, 10)
	return api.Ratio{Num: row(x), Den: row(y)}
}

// toRat is how much a is.
func toRat(a api.Ratio) *big.Rat {
	number := func(a []uint32) *big.Int {
		n := new(big.Int)
		for _, limb := range slices.Backward(a) {
			n.Lsh(n, 32).Add(n, big.NewInt(int64(limb)))
		}
		return n
	}
	return new(big.Rat).SetFrac(number(a.Num), number(a.Den))
}

// fromRat is the least ratio that is as much as x: a Rat is kept that way.
func fromRat(x *big.Rat) api.Ratio { return api.Ratio{Num: row(x.Num()), Den: row(x.Denom())} }

func equal(a, b api.Ratio) bool { return slices.Equal(a.Num, b.Num) && slices.Equal(a.Den, b.Den) }

func same(t *testing.T, what string, got, want any) {
	t.Helper()
	if got != want {
		t.Fatalf("%s: %v, want %v", what, got, want)
	}
}

// chain is n servers, each one but the first within the one ahead of it, all with that quota.
func chain(n int, quota api.Weight) []api.Server {
	var l []api.Server
	for i := range n {
		l = append(l, api.Server{Parent: i - 1, Quota: quota})
	}
	return l
}

// tree is one that there must be, of n.
func tree(t *testing.T, n uint64, l ...api.Server) *Tree {
	t.Helper()
	x := New(ratio.Whole(n), l)
	if x == nil {
		t.Fatalf("New(%d, %v): nil", n, l)
	}
	return x
}

// helds is what is told as held at -1, at 0, and so on, n numbers in all.
func helds(x *Tree, n int) string {
	var l []string
	for i := range n {
		l = append(l, ratio.Text(x.Held(i-1)))
	}
	return fmt.Sprint(l)
}

// look is all that a tree tells of the numbers of servers from -2 to 17, and of some holders.
type look struct {
	helds   []api.Ratio
	paths   [][]int
	servers []int
}

func stands(x *Tree, ids []int) look {
	var s look
	for i := -2; i < 18; i++ {
		s.helds = append(s.helds, x.Held(i))
		s.paths = append(s.paths, x.Path(i))
	}
	for _, id := range ids {
		s.servers = append(s.servers, x.Server(id))
	}
	return s
}

func alike(a, b look) bool {
	return slices.EqualFunc(a.helds, b.helds, equal) && slices.EqualFunc(a.paths, b.paths, slices.Equal[[]int]) && slices.Equal(a.servers, b.servers)
}

// plain is a tree as the chapter tells it, by plain sums of fractions.
type plain struct {
	all       *big.Rat
	l         []api.Server
	home      map[int]int
	now, next map[int]api.Weight
}

func newPlain(all api.Ratio, l []api.Server) *plain {
	return &plain{toRat(all), slices.Clone(l), map[int]int{}, map[int]api.Weight{}, map[int]api.Weight{}}
}

func may(w api.Weight) bool { return w.E >= 1 && w.E <= w.P && w.P <= 1<<20 }

func frac(w api.Weight) *big.Rat { return big.NewRat(w.E, w.P) }

func (p *plain) has(server int) bool { return server >= -1 && server < len(p.l) }

func (p *plain) path(server int) []int {
	switch {
	case !p.has(server):
		return nil
	case server == -1:
		return []int{-1}
	}
	return append([]int{server}, p.path(p.l[server].Parent)...)
}

func (p *plain) holds(id int) *big.Rat {
	now := frac(p.now[id])
	if w, asked := p.next[id]; asked && frac(w).Cmp(now) > 0 {
		return frac(w)
	}
	return now
}

func (p *plain) held(server int) *big.Rat {
	sum := new(big.Rat)
	for id, home := range p.home {
		if slices.Contains(p.path(home), server) {
			sum.Add(sum, p.holds(id))
		}
	}
	return sum
}

func (p *plain) room(server int) *big.Rat {
	if server == -1 {
		return p.all
	}
	return frac(p.l[server].Quota)
}

func (p *plain) over(path []int) bool {
	return slices.ContainsFunc(path, func(s int) bool { return p.held(s).Cmp(p.room(s)) > 0 })
}

func (p *plain) join(id, server int, w api.Weight) api.Errno {
	_, there := p.home[id]
	switch {
	case !may(w) || !p.has(server):
		return api.ErrArg
	case there:
		return api.ErrThere
	}
	p.home[id], p.now[id] = server, w
	if p.over(p.path(server)) {
		p.free(id)
		return api.ErrQuota
	}
	return api.OK
}

func (p *plain) ask(id int, w api.Weight) api.Errno {
	server, there := p.home[id]
	_, asked := p.next[id]
	switch {
	case !may(w):
		return api.ErrArg
	case !there:
		return api.ErrNone
	case asked:
		return api.ErrState
	}
	p.next[id] = w
	if p.over(p.path(server)) {
		delete(p.next, id)
		return api.ErrQuota
	}
	return api.OK
}

func (p *plain) settle(id int) api.Errno {
	next, asked := p.next[id]
	switch _, there := p.home[id]; {
	case !there:
		return api.ErrNone
	case !asked:
		return api.ErrState
	}
	p.now[id] = next
	delete(p.next, id)
	return api.OK
}

func (p *plain) free(id int) api.Errno {
	if _, there := p.home[id]; !there {
		return api.ErrNone
	}
	delete(p.home, id)
	delete(p.now, id)
	delete(p.next, id)
	return api.OK
}

func (p *plain) stands(ids []int) look {
	var s look
	for i := -2; i < 18; i++ {
		s.helds = append(s.helds, fromRat(p.held(i)))
		s.paths = append(s.paths, p.path(i))
	}
	for _, id := range ids {
		server, there := p.home[id]
		if !there {
			server = -2
		}
		s.servers = append(s.servers, server)
	}
	return s
}

// call is one that changes a tree, or is refused.
type call struct {
	what       string
	id, server int
	w          api.Weight
}

func join(id, server int, w api.Weight) call { return call{"Join", id, server, w} }
func ask(id int, w api.Weight) call          { return call{"Ask", id, 0, w} }
func settle(id int) call                     { return call{"Settle", id, 0, w(0, 0)} }
func free(id int) call                       { return call{"Free", id, 0, w(0, 0)} }

func (c call) do(x *Tree) api.Errno {
	switch c.what {
	case "Join":
		return x.Join(c.id, c.server, c.w)
	case "Ask":
		return x.Ask(c.id, c.w)
	case "Settle":
		return x.Settle(c.id)
	}
	return x.Free(c.id)
}

func (c call) plainly(p *plain) api.Errno {
	switch c.what {
	case "Join":
		return p.join(c.id, c.server, c.w)
	case "Ask":
		return p.ask(c.id, c.w)
	case "Settle":
		return p.settle(c.id)
	}
	return p.free(c.id)
}

// does does calls that there must be no error of.
func does(t *testing.T, x *Tree, l ...call) {
	t.Helper()
	for _, c := range l {
		same(t, fmt.Sprint(c), c.do(x), api.OK)
	}
}

// refuses does a call that must be refused, and change nothing that is told.
func refuses(t *testing.T, x *Tree, c call, want api.Errno) {
	t.Helper()
	numbers := append(ids(), 3, 4, 5, 6, 7, c.id)
	before := stands(x, numbers)
	same(t, fmt.Sprint(c), c.do(x), want)
	if after := stands(x, numbers); !alike(before, after) {
		t.Fatalf("%v: refused, but stands as %v, and stood as %v", c, after, before)
	}
}

// step does c, and holds what is told, and all that is told then, against a plain tree; what is refused changes nothing, and no server holds more than its quota.
func step(t *testing.T, x *Tree, p *plain, c call, ids []int) api.Errno {
	t.Helper()
	before := p.stands(ids)
	got, want := c.do(x), c.plainly(p)
	if got != want {
		t.Fatalf("%v of %v: error %d, want %d", p.l, c, got, want)
	}
	after, should := stands(x, ids), p.stands(ids)
	if !alike(after, should) {
		t.Fatalf("%v of %v: stands as %v, want %v", p.l, c, after, should)
	}
	if got != api.OK && !alike(before, after) {
		t.Fatalf("%v of %v: refused, but stands as %v, and stood as %v", p.l, c, after, before)
	}
	for i := -1; i < len(p.l); i++ {
		if toRat(x.Held(i)).Cmp(p.room(i)) > 0 {
			t.Fatalf("%v of %v: %d holds more than its quota", p.l, c, i)
		}
	}
	return got
}

// P13.2: the chapter's example.
func TestExample(t *testing.T) {
	l := []api.Server{at(-1, 1, 2), at(0, 1, 3)}
	for _, n := range []uint64{1, 2, 1000} {
		x := tree(t, n, l...)
		refuses(t, x, join(1, 1, w(1, 2)), api.ErrQuota)
		same(t, "Server", x.Server(1), -2)
		same(t, "Held", helds(x, 3), "[0 0 0]")
		does(t, x, join(1, 1, w(1, 3)))
		same(t, "Held", helds(x, 3), "[1/3 1/3 1/3]")
		does(t, x, join(2, 0, w(1, 6)))
		same(t, "Held", helds(x, 3), "[1/2 1/2 1/3]")
	}
}

// mayBe are servers that may be.
func mayBe() [][]api.Server {
	return [][]api.Server{
		nil, {}, {at(-1, 1, 1)}, {at(-1, 1, 2), at(0, 1, 3)}, {at(-1, 1, 2), at(-1, 1, 3)},
		{at(-1, 0, 1)}, {at(-1, 0, top)}, {at(-1, 1<<30, 1)}, {at(-1, 1<<30, top)}, {at(-1, 1, top)}, {at(-1, 5, 2)}, {at(-1, 1, 2), at(0, 1<<30, 1)},
		{at(-1, 1, 1), at(-1, 1, 1), at(0, 1, 1), at(1, 1, 1), at(-1, 1, 1), at(2, 1, 1), at(4, 1, 1)},
		chain(15, w(1, 2)), chain(16, w(1, 2)), chain(16, w(1<<30, top)), chain(16, w(0, 1)), row16(at(-1, 1, 16)), chain(16, w(1<<30, 1)),
		append(chain(15, w(3, 2)), at(0, 1, 3)), append(chain(1, w(3, 2)), row16(at(0, 1, 3))[:15]...),
	}
}

// mayNot are single servers that may not be, wherever among ones that may be they stand; their parents are numbers that no place has.
func mayNot() []api.Server {
	return []api.Server{
		at(-2, 1, 2), at(-3, 1, 2), at(16, 1, 2), at(17, 1, 2), at(most, 1, 2), at(most-1, 1, 2), at(least, 1, 2), at(least+1, 1, 2), at(-1<<32, 1, 2), at(1<<32, 1, 2), at(1<<32-1, 1, 2),
		at(-1, -1, 2), at(-1, -1, 1), at(-1, 1<<30+1, 1), at(-1, 1<<30+1, top), at(-1, 1<<31, 2), at(-1, 1<<32, 2), at(-1, 1<<32+1, 2), at(-1, most, 2), at(-1, least, 2), at(-1, least, least), at(-1, most, most),
		at(-1, 1, 0), at(-1, 0, 0), at(-1, 1, -1), at(-1, 0, -1), at(-1, -1, -1), at(-1, 1, top+1), at(-1, 0, top+1), at(-1, 1<<30, top+1), at(-1, 1, 1<<32+1), at(-1, 1, most), at(-1, 1, least), at(-1, 0, least),
	}
}

// P13.1: which servers may be: a tree is made of them just then.
func TestCheck(t *testing.T) {
	one := ratio.Whole(1)
	for _, l := range mayBe() {
		same(t, fmt.Sprint("Check ", l), Check(l), true)
		same(t, fmt.Sprint("New ", l), New(one, l) != nil, true)
	}
	no := [][]api.Server{
		append(chain(16, w(1, 2)), at(15, 1, 2)), append(row16(at(-1, 1, 2)), at(-1, 1, 2)), chain(18, w(0, 1)), chain(1000, w(1, 2)), make([]api.Server, 1<<20),
		append(row16(at(-1, 1, 2)), at(-2, 0, 0)), {{}}, make([]api.Server, 16),
	}
	for _, good := range mayBe() {
		for i, s := range good {
			for _, parent := range []int{i, i + 1, 15, 16, -2, most, least} {
				if parent >= i || parent < -1 {
					l := slices.Clone(good)
					l[i] = api.Server{Parent: parent, Quota: s.Quota}
					no = append(no, l)
				}
			}
			for _, bad := range mayNot() {
				l := slices.Clone(good)
				l[i] = bad
				no = append(no, l)
			}
		}
	}
	for _, l := range no {
		if Check(l) || New(one, l) != nil {
			t.Fatalf("%v may be", l)
		}
	}
}

// noRatios are ratios that may not be.
func noRatios() []api.Ratio {
	return []api.Ratio{
		{}, {Num: []uint32{}, Den: []uint32{}}, {Num: []uint32{1}}, {Num: []uint32{1}, Den: []uint32{}},
		{Den: []uint32{0}}, {Num: []uint32{1}, Den: []uint32{0}}, {Num: []uint32{1}, Den: []uint32{0, 0}},
		{Num: []uint32{0}, Den: []uint32{1}}, {Num: []uint32{1, 0}, Den: []uint32{2}}, {Num: []uint32{1}, Den: []uint32{2, 0}},
		{Num: []uint32{5, 6, 0}, Den: []uint32{7, 8}}, {Num: []uint32{5, 6}, Den: []uint32{7, 8, 0}}, {Num: make([]uint32, 9), Den: make([]uint32, 9)},
	}
}

// alls are ratios that may be, those of 0, and those that are not in lowest terms among them.
func alls() []api.Ratio {
	return []api.Ratio{
		made("1", "1"), made("2", "1"), made("3", "4"), made("6", "4"), made("1000", "1000"), made("7", "3"), made("1024", "1"), made("41", "42"),
		made("0", "1"), made("0", "7"), {Num: []uint32{}, Den: []uint32{1}}, made("0", "36893488147419103232"),
		made("1", "1048576"), made("1048575", "1048576"), made("2147483648", "4294967296"), made("36893488147419103232", "36893488147419103232"),
		made("170141183460469231731687303715884105727", "340282366920938463463374607431768211456"), {Num: append(make([]uint32, 5), 1), Den: append(make([]uint32, 5), 3)},
	}
}

// P13.1: which trees there are; nobody holds anything, at any of them.
func TestNew(t *testing.T) {
	for _, all := range noRatios() {
		for _, l := range append(mayBe(), []api.Server{{}}) {
			if New(all, l) != nil {
				t.Errorf("New(%v, %v): a tree", all, l)
			}
		}
	}
	for _, all := range alls() {
		for _, l := range mayBe() {
			x := New(all, l)
			if x == nil {
				t.Fatalf("New(%v, %v): nil", all, l)
			}
			if !alike(stands(x, ids()), newPlain(all, l).stands(ids())) {
				t.Fatalf("New(%v, %v): stands as %v", all, l, stands(x, ids()))
			}
			for _, id := range ids() {
				same(t, "Ask", x.Ask(id, w(1, 2)), api.ErrNone)
				same(t, "Settle", x.Settle(id), api.ErrNone)
				same(t, "Free", x.Free(id), api.ErrNone)
			}
		}
	}
}

// P13.2: the whole has just as much as New was handed, whether it is in lowest terms or not.
func TestAll(t *testing.T) {
	for _, x := range []struct {
		all         api.Ratio
		just, above api.Weight
	}{
		{made("1", "2"), w(1, 2), w(524287, 1048573)},
		{made("6", "12"), w(1, 2), w(top/2+1, top)},
		{made("2147483648", "4294967296"), w(1, 2), w(top/2+1, top)},
		{made("1", "1048576"), w(1, top), w(1, top-1)},
		{made("36893488147419103232", "36893488147419103232"), w(1, 1), w(2, 1)},
		{made("340282366920938463463374607431768211456", "1020847100762815390390123822295304634368"), w(1, 3), w(349526, top)},
	} {
		for _, server := range []int{-1, 0, 1} {
			tr := New(x.all, []api.Server{at(-1, 5, 1), at(0, 7, 1)})
			if may(x.above) {
				refuses(t, tr, join(1, server, x.above), api.ErrQuota)
			}
			does(t, tr, join(1, server, x.just))
			refuses(t, tr, join(2, -1, w(1, top)), api.ErrQuota)
		}
	}
	for _, den := range []string{"1", "7", "36893488147419103232"} {
		tr := New(made("0", den), []api.Server{at(-1, 5, 1)})
		for _, y := range some() {
			refuses(t, tr, join(1, -1, y), api.ErrQuota)
			refuses(t, tr, join(1, 0, y), api.ErrQuota)
		}
	}
}

// P13.1: paths of one server, of sixteen, of brothers, of a tree that has some of all.
func TestPath(t *testing.T) {
	mixed := []api.Server{at(-1, 1, 1), at(0, 1, 1), at(-1, 1, 1), at(1, 1, 1), at(0, 1, 1), at(2, 1, 1), at(3, 1, 1)}
	for _, c := range []struct {
		l     []api.Server
		place int
		want  string
	}{
		{nil, -1, "[-1]"}, {chain(1, w(1, 2)), -1, "[-1]"}, {chain(1, w(1, 2)), 0, "[0 -1]"},
		{chain(16, w(1, 2)), -1, "[-1]"}, {chain(16, w(1, 2)), 0, "[0 -1]"}, {chain(16, w(1, 2)), 7, "[7 6 5 4 3 2 1 0 -1]"},
		{chain(16, w(1, 2)), 15, "[15 14 13 12 11 10 9 8 7 6 5 4 3 2 1 0 -1]"},
		{row16(at(-1, 1, 2)), 0, "[0 -1]"}, {row16(at(-1, 1, 2)), 8, "[8 -1]"}, {row16(at(-1, 1, 2)), 15, "[15 -1]"},
		{append(chain(1, w(1, 2)), row16(at(0, 1, 2))[:15]...), 15, "[15 0 -1]"},
		{mixed, 0, "[0 -1]"}, {mixed, 1, "[1 0 -1]"}, {mixed, 2, "[2 -1]"}, {mixed, 3, "[3 1 0 -1]"}, {mixed, 4, "[4 0 -1]"}, {mixed, 5, "[5 2 -1]"}, {mixed, 6, "[6 3 1 0 -1]"},
	} {
		same(t, fmt.Sprint("Path ", c.place, " of ", c.l), fmt.Sprint(tree(t, 1, c.l...).Path(c.place)), c.want)
	}
	for _, l := range mayBe() {
		x := tree(t, 1, l...)
		does(t, x, join(1, -1, w(1, 2)))
		for _, place := range outside(len(l)) {
			same(t, fmt.Sprint("Path ", place, " of ", l), len(x.Path(place)), 0)
		}
	}
}

// P13.2: who joins at no server, and what no server holds.
func TestOutside(t *testing.T) {
	for _, l := range mayBe() {
		x := tree(t, 2, l...)
		does(t, x, join(1, -1, w(1, 2)))
		for _, place := range outside(len(l)) {
			for _, y := range slices.Concat(some(), wrong()) {
				same(t, fmt.Sprint("Join at ", place), x.Join(2, place, y), api.ErrArg)
			}
			refuses(t, x, join(1, place, w(1, 2)), api.ErrArg)
			same(t, "Server", x.Server(2), -2)
			if got := x.Held(place); !equal(got, made("0", "1")) {
				t.Fatalf("Held(%d) of %v: %v", place, l, got)
			}
		}
		if got := x.Held(-1); !equal(got, made("1", "2")) {
			t.Fatalf("Held(-1) of %v: %v", l, got)
		}
	}
}

// P13.2: at which places what is joined there is held: on its path, and nowhere else.
func TestPlaces(t *testing.T) {
	l := []api.Server{at(-1, 9, 1), at(0, 9, 1), at(-1, 9, 1), at(1, 9, 1), at(0, 9, 1), at(2, 9, 1), at(3, 9, 1)}
	for place, want := range []string{"[1/2 0 0 0 0 0 0 0]", "[1/2 1/2 0 0 0 0 0 0]", "[1/2 1/2 1/2 0 0 0 0 0]", "[1/2 0 0 1/2 0 0 0 0]", "[1/2 1/2 1/2 0 1/2 0 0 0]", "[1/2 1/2 0 0 0 1/2 0 0]", "[1/2 0 0 1/2 0 0 1/2 0]", "[1/2 1/2 1/2 0 1/2 0 0 1/2]"} {
		x := tree(t, 9, l...)
		does(t, x, join(1, place-1, w(1, 2)))
		same(t, fmt.Sprint("Held behind Join at ", place-1), helds(x, 8), want)
		same(t, "Server", x.Server(1), place-1)
	}
	for _, l := range [][]api.Server{chain(16, w(9, 1)), row16(at(-1, 9, 1))} {
		x := tree(t, 9, l...)
		for place := -1; place < 16; place++ {
			does(t, x, join(place, place, w(1, 2)))
			same(t, "Server", x.Server(place), place)
		}
		want := "[17/2 8 15/2 7 13/2 6 11/2 5 9/2 4 7/2 3 5/2 2 3/2 1 1/2]"
		if l[1].Parent == -1 {
			want = "[17/2 1/2 1/2 1/2 1/2 1/2 1/2 1/2 1/2 1/2 1/2 1/2 1/2 1/2 1/2 1/2 1/2]"
		}
		same(t, "Held", helds(x, 17), want)
	}
}

// P13.1: where holders joined.
func TestServer(t *testing.T) {
	x := tree(t, 3, at(-1, 2, 1), at(0, 1, 1), at(-1, 1, 2))
	for _, id := range ids() {
		same(t, "Server ahead of Join", x.Server(id), -2)
	}
	does(t, x, join(1, 1, w(1, 2)), join(-1, -1, w(1, 2)), join(-2, 2, w(1, 2)), join(0, 0, w(1, 2)))
	same(t, "Servers", fmt.Sprint(x.Server(1), x.Server(-1), x.Server(-2), x.Server(0), x.Server(2)), "1 -1 2 0 -2")
	refuses(t, x, join(2, 1, w(2, 3)), api.ErrQuota)
	same(t, "Server of who was refused", x.Server(2), -2)
	does(t, x, ask(1, w(3, 4)))
	same(t, "Server of who asked", x.Server(1), 1)
	does(t, x, settle(1))
	same(t, "Server of who settled", x.Server(1), 1)
	does(t, x, free(1), free(-1))
	same(t, "Servers", fmt.Sprint(x.Server(1), x.Server(-1), x.Server(-2), x.Server(0)), "-2 -2 2 0")
}

// P13.2: weights that may not be are refused ahead of all else: of no holder, of one, of one that asked, with room or without.
func TestWrongWeights(t *testing.T) {
	full := tree(t, 1, at(-1, 3, 4), at(0, 1, 2))
	does(t, full, join(1, 1, w(1, 2)), join(2, 0, w(1, 4)), join(3, -1, w(1, 4)), ask(2, w(1, 8)))
	roomy := tree(t, 9, at(-1, 9, 1), at(0, 9, 1))
	does(t, roomy, join(1, 1, w(1, 2)))
	for _, y := range wrong() {
		for _, x := range []*Tree{full, roomy, tree(t, 0, at(-1, 0, 1))} {
			before := stands(x, []int{1, 2, 3, 4})
			for _, id := range append(ids(), 3, 4) {
				for _, server := range []int{-1, 0, 1, 2, -2, most, least} {
					same(t, fmt.Sprint("Join ", y), x.Join(id, server, y), api.ErrArg)
				}
				same(t, fmt.Sprint("Ask ", y), x.Ask(id, y), api.ErrArg)
			}
			if !alike(before, stands(x, []int{1, 2, 3, 4})) {
				t.Fatalf("%v changed what is told", y)
			}
		}
	}
}

// P13.2: all weights that may be can be held, at each place.
func TestWeights(t *testing.T) {
	for _, y := range some() {
		for place := -1; place < 2; place++ {
			x := tree(t, 1, at(-1, 1, 1), at(0, 1, 1))
			does(t, x, join(1, place, y))
			for i := -1; i < 2; i++ {
				want := made("0", "1")
				if i <= place {
					want = fromRat(frac(y))
				}
				if got := x.Held(i); !equal(got, want) {
					t.Fatalf("Held(%d) behind Join at %d of %v: %v, want %v", i, place, y, got, want)
				}
			}
		}
	}
}

// P13.2: which error goes first, where more than one would do.
func TestErrors(t *testing.T) {
	x := tree(t, 1, at(-1, 3, 4), at(0, 1, 2), at(-1, 1, 4))
	does(t, x, join(1, 1, w(1, 2)), join(2, 2, w(1, 4)))
	refuses(t, x, join(1, 9, w(3, 2)), api.ErrArg)  // may not be, no server, is there
	refuses(t, x, join(1, 9, w(1, 1)), api.ErrArg)  // no server, is there, is too much
	refuses(t, x, join(1, -2, w(1, 9)), api.ErrArg) // no server, is there
	refuses(t, x, join(1, 1, w(3, 2)), api.ErrArg)  // may not be, is there
	refuses(t, x, join(3, 1, w(3, 2)), api.ErrArg)  // may not be, is too much
	refuses(t, x, join(3, 3, w(1, 1)), api.ErrArg)  // no server, is too much
	for place := -1; place < 3; place++ {           // is there, at its own place or at another one, and is too much
		refuses(t, x, join(1, place, w(1, 1)), api.ErrThere)
		refuses(t, x, join(2, place, w(1, 1)), api.ErrThere)
		refuses(t, x, join(1, place, w(1, 100)), api.ErrThere)
		refuses(t, x, join(2, place, w(1, 100)), api.ErrThere)
	}
	refuses(t, x, join(3, 1, w(1, 9)), api.ErrQuota)
	refuses(t, x, ask(3, w(0, 2)), api.ErrArg)  // may not be, is not there
	refuses(t, x, ask(3, w(1, 1)), api.ErrNone) // is not there, is too much
	refuses(t, x, ask(1, w(2, 3)), api.ErrQuota)
	refuses(t, x, settle(3), api.ErrNone)
	refuses(t, x, settle(1), api.ErrState)
	refuses(t, x, free(3), api.ErrNone)
	does(t, x, ask(1, w(1, 3)))
	refuses(t, x, ask(1, w(3, 2)), api.ErrArg)   // may not be, has asked
	refuses(t, x, ask(1, w(1, 1)), api.ErrState) // has asked, is too much
	refuses(t, x, ask(1, w(1, 3)), api.ErrState)
	refuses(t, x, join(1, 1, w(1, 9)), api.ErrThere)
	refuses(t, x, settle(2), api.ErrState)
	does(t, x, settle(1))
	refuses(t, x, settle(1), api.ErrState)
	same(t, "Held", helds(x, 4), "[7/12 1/3 1/3 1/4]")
}

// tight is a chain of sixteen within a whole, where all but one place have more than enough; and that one's path of places.
func tight(t *testing.T, place int, quota api.Weight) *Tree {
	t.Helper()
	l := chain(16, w(100, 1))
	if place < 0 {
		return New(ratio.Of(quota), l)
	}
	l[place].Quota = quota
	return tree(t, 100, l...)
}

// P13.2: a share that fits just at one place of a path, be it the lowest, one in the middle, the top or the whole; and one that is above by the least part there alone.
func TestJust(t *testing.T) {
	for _, c := range []struct {
		quota api.Weight
		hold  []api.Weight
		just  api.Weight
		above []api.Weight
	}{
		{w(1, 2), nil, w(1, 2), []api.Weight{w(524287, 1048573), w(top/2+1, top), w(1, 1)}},
		{w(1, 1), []api.Weight{w(1, 2), w(1, 3), w(1, 7)}, w(1, 42), []api.Weight{w(1, 41), w(2, 83), w(25000, top-1)}},
		{w(1, 1), []api.Weight{w(top-2, top-1)}, w(1, top-1), []api.Weight{w(1, top-2), w(1, 1048573), w(2, top)}},
		{w(41, 42), []api.Weight{w(1, 2), w(1, 3)}, w(1, 7), []api.Weight{w(1, 6), w(149797, top)}},
		{w(5, 2), []api.Weight{w(1, 1), w(1, 1)}, w(1, 2), []api.Weight{w(524287, 1048573), w(top/2+1, top)}},
		{w(1, top), nil, w(1, top), []api.Weight{w(1, top-1), w(2, top), w(1, 1)}},
		{w(30, 1), slices.Repeat([]api.Weight{w(1, 1)}, 29), w(1, 1), nil},
	} {
		for place := -1; place < 16; place++ {
			x := tight(t, place, c.quota)
			for i, h := range c.hold { // at the place itself, at the lowest of all, and between them
				does(t, x, join(i, []int{place, 15, (place + 15) / 2}[i%3], h))
			}
			for _, server := range []int{place, (place + 16) / 2, 15} {
				for _, above := range c.above {
					refuses(t, x, join(-5, server, above), api.ErrQuota)
				}
				does(t, x, join(-5, server, c.just))
				refuses(t, x, join(-6, server, w(1, top)), api.ErrQuota)
				does(t, x, free(-5))
			}
			if place > 0 { // what is not below that place is not held by it
				does(t, x, join(-7, place-1, w(1, 1)), join(-8, -1, w(1, 1)), join(-5, place, c.just))
			}
		}
	}
}

// P13.2: what one asks for in place of what it has fits just at one place, or is above there alone; and what is refused leaves it as who has not asked.
func TestJustAsked(t *testing.T) {
	for place := -1; place < 16; place++ {
		x := tight(t, place, w(1, 1))
		does(t, x, join(1, 15, w(1, 5)), join(2, place, w(1, 2)), join(3, (place+15)/2, w(1, 7)))
		for _, id := range []int{1, 2, 3} {
			now := map[int]api.Weight{1: w(1, 5), 2: w(1, 2), 3: w(1, 7)}[id]
			just := map[int]api.Weight{1: w(5, 14), 2: w(23, 35), 3: w(3, 10)}[id]
			for _, above := range []api.Weight{w(just.E*20000+1, just.P*20000), w(just.E, just.P-1), w(1, 1)} {
				refuses(t, x, ask(id, above), api.ErrQuota)
				refuses(t, x, settle(id), api.ErrState)
			}
			does(t, x, ask(id, just))
			same(t, "Held", ratio.Text(x.Held(place)), "1")
			refuses(t, x, join(4, 15, w(1, top)), api.ErrQuota)
			does(t, x, settle(id))
			same(t, "Held", ratio.Text(x.Held(place)), "1")
			does(t, x, ask(id, now), settle(id))
			same(t, "Held", ratio.Text(x.Held(place)), "59/70")
		}
	}
}

// P13.2: a quota of 0 lets nobody hold anything at it, or below it, but beside it.
func TestZeroQuota(t *testing.T) {
	x := tree(t, 9, at(-1, 9, 1), at(0, 0, 7), at(1, 9, 1), at(0, 9, 1))
	for _, y := range some() {
		refuses(t, x, join(1, 1, y), api.ErrQuota)
		refuses(t, x, join(1, 2, y), api.ErrQuota)
		for _, server := range []int{-1, 0, 3} {
			does(t, x, join(1, server, y), free(1))
		}
	}
	same(t, "Held", helds(x, 5), "[0 0 0 0 0]")
}

// P13.2: quotas that are together above their parent's, and one that is above it alone: all hold what they may, and the parent no more than its own.
func TestAboveParent(t *testing.T) {
	x := tree(t, 2, at(-1, 1, 1), at(0, 3, 4), at(0, 2, 3), at(0, 5, 1))
	does(t, x, join(1, 1, w(3, 4)))
	refuses(t, x, join(2, 2, w(2, 3)), api.ErrQuota)
	refuses(t, x, join(2, 3, w(2, 3)), api.ErrQuota)
	does(t, x, join(2, 2, w(1, 4)))
	refuses(t, x, join(3, 3, w(1, top)), api.ErrQuota)
	same(t, "Held", helds(x, 5), "[1 1 3/4 1/4 0]")
	does(t, x, free(1))
	refuses(t, x, ask(2, w(3, 4)), api.ErrQuota)
	does(t, x, ask(2, w(2, 3)), join(3, 3, w(1, 3)))
	same(t, "Held", helds(x, 5), "[1 1 0 2/3 1/3]")
	y := tree(t, 1, at(-1, 7, 1), at(-1, 7, 1))
	does(t, y, join(1, 0, w(1, 2)), join(2, 1, w(1, 2)))
	refuses(t, y, join(3, 0, w(1, 9)), api.ErrQuota)
	refuses(t, y, join(3, -1, w(1, 9)), api.ErrQuota)
}

// P13.2: brothers have nothing of one another's: one that is full leaves another one its quota.
func TestBrothers(t *testing.T) {
	x := tree(t, 16, row16(at(-1, 1, 2))...)
	for i := range 16 {
		refuses(t, x, join(i, i, w(2, 3)), api.ErrQuota)
		does(t, x, join(i, i, w(1, 2)))
		refuses(t, x, join(100, i, w(1, top)), api.ErrQuota)
	}
	same(t, "Held", helds(x, 3), "[8 1/2 1/2]")
	does(t, x, free(7), join(7, 7, w(1, 3)))
	refuses(t, x, join(7, 8, w(1, 6)), api.ErrThere)
	refuses(t, x, join(100, 8, w(1, 6)), api.ErrQuota)
	does(t, x, join(100, 7, w(1, 6)))
}

// P13.2: what each server holds of one that asked, ahead of Settle and behind it: the greater one of both, then what it asked for.
func TestAsk(t *testing.T) {
	for _, c := range []struct {
		now, next   api.Weight
		held, after string
	}{
		{w(1, 2), w(1, 3), "1/2", "1/3"}, {w(1, 3), w(1, 2), "1/2", "1/2"}, {w(1, 2), w(1, 2), "1/2", "1/2"}, {w(1, 2), w(4, 8), "1/2", "1/2"}, {w(4, 8), w(1, 2), "1/2", "1/2"},
		{w(1, 1), w(1, top), "1", "1/1048576"}, {w(1, top), w(1, 1), "1", "1"}, {w(1, top), w(1, top-1), "1/1048575", "1/1048575"}, {w(1, top-1), w(1, top), "1/1048575", "1/1048576"},
		{w(2, 3), w(3, 5), "2/3", "3/5"}, {w(3, 5), w(2, 3), "2/3", "2/3"}, {w(top-2, top-1), w(top-1, top), "1048575/1048576", "1048575/1048576"},
	} {
		for place, want := range []string{"[%s 0 0 0 0]", "[%s %[1]s 0 0 0]", "[%s %[1]s %[1]s 0 0]", "[%s %[1]s %[1]s %[1]s 0]", "[%s %[1]s 0 0 %[1]s]"} {
			for _, n := range []int64{1, 5} { // with just so much room, and with more
				x := tree(t, uint64(n), at(-1, n, 1), at(0, n, 1), at(1, n, 1), at(0, n, 1))
				does(t, x, join(1, place-1, c.now), ask(1, c.next))
				same(t, "Held ahead of Settle", helds(x, 5), fmt.Sprintf(want, c.held))
				refuses(t, x, ask(1, c.next), api.ErrState)
				does(t, x, settle(1))
				same(t, "Held behind Settle", helds(x, 5), fmt.Sprintf(want, c.after))
				refuses(t, x, settle(1), api.ErrState)
				same(t, "Server", x.Server(1), place-1)
				does(t, x, ask(1, c.now), settle(1), free(1))
				same(t, "Held behind Free", helds(x, 5), "[0 0 0 0 0]")
			}
		}
	}
}

// P13.2: who asked for less leaves room for others, on all its path, just when it has settled; who asked for more takes it at once.
func TestRoom(t *testing.T) {
	x := tree(t, 1, at(-1, 1, 1), at(0, 2, 3))
	does(t, x, join(1, 1, w(2, 3)), ask(1, w(1, 3)))
	refuses(t, x, join(2, 1, w(1, 3)), api.ErrQuota)
	refuses(t, x, join(2, 0, w(1, 2)), api.ErrQuota)
	does(t, x, join(3, -1, w(1, 3)), settle(1), join(2, 1, w(1, 3)))
	same(t, "Held", helds(x, 3), "[1 2/3 2/3]")
	does(t, x, ask(2, w(1, 3)))
	refuses(t, x, ask(1, w(1, 2)), api.ErrQuota)
	does(t, x, free(1), settle(2), ask(2, w(2, 3)))
	refuses(t, x, join(4, 0, w(1, top)), api.ErrQuota)
	does(t, x, free(2), join(4, 0, w(2, 3)))
	same(t, "Held", helds(x, 3), "[1 2/3 0]")
}

// P13.2: a path that is full, or above all but at one place, still lets who holds something there ask for as much or less.
func TestLessOfFull(t *testing.T) {
	for place := -1; place < 16; place++ {
		x := tight(t, place, w(2, 3))
		does(t, x, join(1, 15, w(2, 3)))
		for _, y := range []api.Weight{w(2, 3), w(4, 6), w(1, 2), w(1, top), w(699050, 1048575)} {
			does(t, x, ask(1, y))
			same(t, "Held ahead of Settle", ratio.Text(x.Held(place)), "2/3")
			does(t, x, settle(1))
			same(t, "Held behind Settle", ratio.Text(x.Held(place)), ratio.Text(ratio.Of(y)))
			does(t, x, ask(1, w(2, 3)), settle(1))
		}
	}
}

// P13.2: who is freed holds nothing at any server, asked for nothing, and its number can be taken again, at another server, too.
func TestFree(t *testing.T) {
	x := tree(t, 2, at(-1, 1, 1), at(0, 1, 1), at(-1, 1, 1))
	does(t, x, join(1, 1, w(1, 2)), join(2, 2, w(2, 3)), ask(1, w(3, 4)))
	same(t, "Held", helds(x, 4), "[17/12 3/4 3/4 2/3]")
	does(t, x, free(1))
	same(t, "Held", helds(x, 4), "[2/3 0 0 2/3]")
	same(t, "Server", x.Server(1), -2)
	refuses(t, x, free(1), api.ErrNone)
	refuses(t, x, settle(1), api.ErrNone)
	refuses(t, x, ask(1, w(1, 2)), api.ErrNone)
	does(t, x, join(1, 2, w(1, 5)))
	same(t, "Server", x.Server(1), 2)
	same(t, "Held", helds(x, 4), "[13/15 0 0 13/15]")
	refuses(t, x, settle(1), api.ErrState)
	does(t, x, ask(1, w(1, 6)), settle(1), free(1))
	does(t, x, join(1, -1, w(1, 5)))
	same(t, "Server", x.Server(1), -1)
	same(t, "Held", helds(x, 4), "[13/15 0 0 2/3]")
	does(t, x, free(2), join(2, 0, w(1, 1)), join(3, 2, w(1, 2)))
	same(t, "Held", helds(x, 4), "[17/10 1 0 1/2]")
}

// P13.2: all numbers are holders' numbers.
func TestIDs(t *testing.T) {
	x := tree(t, 64, at(-1, 64, 1), at(0, 64, 1), at(-1, 64, 1))
	for i, id := range ids() {
		same(t, "Server ahead of Join", x.Server(id), -2)
		does(t, x, join(id, i%4-1, w(1, int64(i)+2)))
		refuses(t, x, join(id, (i+1)%4-1, w(1, 2)), api.ErrThere)
	}
	for i, id := range ids() {
		does(t, x, ask(id, w(1, int64(i)+20)))
		same(t, "Server", x.Server(id), i%4-1)
	}
	for _, id := range ids() {
		does(t, x, settle(id))
	}
	for _, id := range ids() {
		does(t, x, free(id))
		same(t, "Server behind Free", x.Server(id), -2)
	}
	same(t, "Held", helds(x, 4), "[0 0 0 0]")
}

// P13.2: what is held, as the least ratio, written as it is kept: of a place without holders, with some, of a full one.
func TestHeld(t *testing.T) {
	for _, c := range []struct {
		hold []api.Weight
		held api.Ratio
	}{
		{nil, made("0", "1")}, {[]api.Weight{w(2, 4)}, made("1", "2")}, {[]api.Weight{w(1, 6), w(1, 3)}, made("1", "2")}, {[]api.Weight{w(1, 2), w(1, 3), w(1, 6)}, made("1", "1")},
		{[]api.Weight{w(2, 3), w(1, 1)}, made("5", "3")}, {slices.Repeat([]api.Weight{w(1, 1)}, 3), made("3", "1")}, {[]api.Weight{w(1, top), w(1, top-1)}, made("2097151", "1099510579200")},
		{slices.Repeat([]api.Weight{w(1, top)}, 64), made("1", "16384")}, {[]api.Weight{w(top, top), w(top-1, top), w(1, top), w(5, 5)}, made("3", "1")},
	} {
		for place := -1; place < 16; place++ {
			x := tree(t, 3, chain(16, w(9, 3))...)
			for i, h := range c.hold {
				does(t, x, join(i, place, h))
			}
			for i := -1; i < 16; i++ {
				want := c.held
				if i > place {
					want = made("0", "1")
				}
				if got := x.Held(i); !equal(got, want) {
					t.Fatalf("Held(%d) behind Join at %d of %v: %v, want %v", i, place, c.hold, got, want)
				}
			}
		}
	}
}

// P13.3: nothing that is refused changes what is told, though it is asked for again and again.
func TestRefused(t *testing.T) {
	x := tree(t, 1, at(-1, 3, 4), at(0, 1, 2), at(-1, 1, 4))
	does(t, x, join(1, 1, w(1, 4)), join(2, 0, w(1, 4)), join(3, 2, w(1, 8)), ask(1, w(1, 3)), ask(3, w(1, 5)))
	for range 3 {
		for _, c := range []call{
			join(4, 1, w(1, 2)), join(4, 0, w(1, 3)), join(4, 2, w(1, 19)), join(4, -1, w(1, 4)), join(1, 1, w(1, 100)), join(2, -1, w(1, 100)), join(4, 3, w(1, 100)), join(4, 1, w(0, 1)),
			ask(1, w(1, 4)), ask(3, w(1, 100)), ask(2, w(1, 2)), ask(4, w(1, 100)), ask(2, w(2, 1)),
			settle(2), settle(4), free(4), free(0),
		} {
			e := c.do(x)
			if e == api.OK {
				t.Fatalf("%v was not refused", c)
			}
			refuses(t, x, c, e)
		}
	}
	same(t, "Held", helds(x, 4), "[47/60 7/12 1/3 1/5]")
	does(t, x, settle(1), settle(3), free(1), free(2), free(3))
	same(t, "Held", helds(x, 4), "[0 0 0 0]")
}

// calls are some by which a small tree may be full, and errors met.
func calls() []call {
	return []call{
		join(1, 1, w(1, 2)), join(1, 0, w(1, 3)), join(1, 2, w(1, 4)), join(1, 3, w(1, 4)), join(2, 1, w(1, 4)), join(2, 0, w(1, 2)), join(2, 2, w(2, 3)), join(2, -1, w(2, 3)),
		ask(1, w(1, 3)), ask(1, w(2, 3)), ask(2, w(1, 2)), ask(2, w(0, 1)),
		settle(1), settle(2), free(1), free(2),
	}
}

// P13.1 to P13.3: all rows of four calls.
func TestRows(t *testing.T) {
	all, few, l := ratio.Whole(1), []int{1, 2, 3}, []api.Server{at(-1, 3, 4), at(0, 1, 2), at(-1, 2, 3)}
	n := len(calls())
	for row := range n * n * n * n {
		x, p := New(all, l), newPlain(all, l)
		rest := row
		for range 3 {
			c := calls()[rest%n]
			if got, want := c.do(x), c.plainly(p); got != want {
				t.Fatalf("row %d: %v: error %d, want %d", row, c, got, want)
			}
			rest /= n
		}
		c := calls()[rest]
		before := stands(x, few)
		got, want := c.do(x), c.plainly(p)
		if after := stands(x, few); got != want || !alike(after, p.stands(few)) || got != api.OK && !alike(before, after) {
			t.Fatalf("row %d: %v: error %d, want %d; stands as %v, want %v", row, c, got, want, after, p.stands(few))
		}
	}
}

// weight is any weight: one of some, of a small period, of a great one, or one that may not be.
func weight(r *rand.Rand) api.Weight {
	switch r.Intn(10) {
	case 0:
		return some()[r.Intn(len(some()))]
	case 1:
		return wrong()[r.Intn(len(wrong()))]
	case 2:
		p := r.Int63n(top) + 1
		return w(r.Int63n(p)/16+1, p)
	}
	p := r.Int63n(12) + 1
	return w(r.Int63n(p)/2+1, p)
}

// servers are any that may be, most of them with quotas that a few holders fill.
func servers(r *rand.Rand) []api.Server {
	var l []api.Server
	for i := range r.Intn(17) {
		p := r.Int63n(12) + 1
		l = append(l, at(r.Intn(i+1)-1, r.Int63n(2*p+1), p))
		if r.Intn(3) == 0 {
			l[i].Parent = i - 1
		}
		if r.Intn(8) == 0 {
			l[i].Quota = w(r.Int63n(1<<30), r.Int63n(top)+1)
		}
	}
	return l
}

// P13.1 to P13.3: many calls by chance, at many trees, held against plain sums.
func TestManyCalls(t *testing.T) {
	r := rand.New(rand.NewSource(13))
	numbers := append(ids(), 3, 4, 5, 6, 7, 8)
	type answer struct {
		what string
		e    api.Errno
	}
	told := map[answer]int{}
	for round := range 8 {
		for _, all := range append(alls(), ratio.Whole(1), ratio.Whole(2), ratio.Whole(3), ratio.Whole(4)) {
			l := servers(r)
			x, p := New(all, l), newPlain(all, l)
			for range 40 + 10*round {
				c := call{[]string{"Join", "Join", "Ask", "Settle", "Free"}[r.Intn(5)], numbers[r.Intn(len(numbers))], r.Intn(len(l)+1) - 1, weight(r)}
				if r.Intn(20) == 0 {
					c.server = outside(len(l))[r.Intn(8)]
				}
				if c.what == "Free" && len(p.home) < 4 { // so that trees are not empty most of the time
					c.what = "Join"
				}
				told[answer{c.what, step(t, x, p, c, numbers)}]++
			}
		}
	}
	for _, a := range []answer{
		{"Join", api.OK}, {"Join", api.ErrArg}, {"Join", api.ErrThere}, {"Join", api.ErrQuota},
		{"Ask", api.OK}, {"Ask", api.ErrArg}, {"Ask", api.ErrNone}, {"Ask", api.ErrState}, {"Ask", api.ErrQuota},
		{"Settle", api.OK}, {"Settle", api.ErrNone}, {"Settle", api.ErrState}, {"Free", api.OK}, {"Free", api.ErrNone},
	} {
		if told[a] < 20 {
			t.Errorf("%v was told %d times alone", a, told[a])
		}
	}
}

// P13.2: many holders, of all periods, so that the sums' numbers are long.
func TestManyHolders(t *testing.T) {
	l := []api.Server{at(-1, 1024, 1), at(0, 1024, 1), at(-1, 1024, 1)}
	x, p := tree(t, 1024, l...), newPlain(ratio.Whole(1024), l)
	for i := range 100 {
		c := join(i, i%4-1, w(int64(i)+1, top-int64(i)*int64(i)))
		does(t, x, c)
		c.plainly(p)
	}
	if !alike(stands(x, []int{0, 1, 2, 99, 100}), p.stands([]int{0, 1, 2, 99, 100})) {
		t.Fatalf("stands as %v", helds(x, 4))
	}
	for i := range 100 {
		does(t, x, free(i))
	}
	same(t, "Held", helds(x, 4), "[0 0 0 0]")
}

// A nil tree, in each call.
func TestNil(t *testing.T) {
	var x *Tree
	for range 2 {
		for _, id := range ids() {
			for _, y := range slices.Concat(some(), wrong()) {
				for _, server := range []int{-1, 0, 1, -2, 16, most, least} {
					same(t, "Join", x.Join(id, server, y), api.ErrArg)
				}
				same(t, "Ask", x.Ask(id, y), api.ErrArg)
			}
			same(t, "Settle", x.Settle(id), api.ErrArg)
			same(t, "Free", x.Free(id), api.ErrArg)
			same(t, "Server", x.Server(id), -2)
		}
		for _, server := range append(outside(0), -1, 0, 1) {
			same(t, "Path", len(x.Path(server)), 0)
			if got := x.Held(server); !equal(got, made("0", "1")) {
				t.Fatalf("Held(%d): %v", server, got)
			}
		}
	}
}

// P1 and P13.3: one that no New made has no servers, and nothing to hold, and no call of one panics.
func TestZero(t *testing.T) {
	var x Tree
	for range 2 {
		for _, id := range ids() {
			for _, y := range some() {
				same(t, "Join", x.Join(id, -1, y), api.ErrQuota)
				same(t, "Ask", x.Ask(id, y), api.ErrNone)
				for _, server := range append(outside(0), 0, 1) {
					same(t, "Join", x.Join(id, server, y), api.ErrArg)
				}
			}
			for _, y := range wrong() {
				same(t, "Join", x.Join(id, -1, y), api.ErrArg)
				same(t, "Ask", x.Ask(id, y), api.ErrArg)
			}
			same(t, "Settle", x.Settle(id), api.ErrNone)
			same(t, "Free", x.Free(id), api.ErrNone)
			same(t, "Server", x.Server(id), -2)
		}
		for _, server := range append(outside(0), -1, 0, 1) {
			if got := x.Held(server); !equal(got, made("0", "1")) {
				t.Fatalf("Held(%d): %v", server, got)
			}
			same(t, "Path", len(x.Path(server)) > 0, server == -1)
		}
	}
}

// spoil changes all limbs of a, and those behind its end that it could have in common with others.
func spoil(a api.Ratio) {
	for _, limbs := range [][]uint32{a.Num, a.Den} {
		limbs = limbs[:cap(limbs)]
		for i := range limbs {
			limbs[i] = limbs[i]*3 + 7
		}
	}
}

func copied(a api.Ratio) api.Ratio {
	return api.Ratio{Num: slices.Clone(a.Num), Den: slices.Clone(a.Den)}
}

// R3: what is handed in stays as it is, and may be changed behind New.
func TestHandedIn(t *testing.T) {
	for _, all := range alls() {
		for _, l := range mayBe() {
			gotAll, gotL := copied(all), append(make([]api.Server, 0, 20), l...)
			Check(gotL)
			x := New(gotAll, gotL)
			last := len(l) - 1
			for _, c := range []call{join(1, last, w(1, 3)), join(2, -1, w(1, top)), ask(1, w(1, 2))} {
				c.do(x)
			}
			if !equal(gotAll, all) || !slices.Equal(gotL, l) {
				t.Fatalf("%v, %v were changed to %v, %v", all, l, gotAll, gotL)
			}
			before := stands(x, []int{1, 2})
			spoil(gotAll)
			gotL = gotL[:cap(gotL)]
			for i := range gotL {
				gotL[i] = at(most, -1, 0)
			}
			if !alike(before, stands(x, []int{1, 2})) {
				t.Fatalf("the tree of %v, %v changed with what was handed in", all, l)
			}
			p := newPlain(all, l)
			for _, c := range []call{join(1, last, w(1, 3)), join(2, -1, w(1, top)), ask(1, w(1, 2))} {
				c.plainly(p)
			}
			for _, c := range []call{join(3, last, w(1, 2)), join(4, 0, w(1, top)), join(5, -1, w(1, 1)), ask(2, w(1, 2)), settle(1), free(2)} {
				step(t, x, p, c, []int{1, 2, 3, 4, 5})
			}
		}
	}
}

// R3: what is told is the caller's own, of a tree without holders, with some, of a full one, a nil and a zero one.
func TestToldIsNew(t *testing.T) {
	trees := []*Tree{nil, {}}
	for _, l := range mayBe() {
		for _, all := range alls() {
			x := New(all, l)
			join(1, len(l)-1, w(1, 2)).do(x)
			join(2, -1, w(1, top)).do(x)
			join(3, 0, w(1, top-1)).do(x)
			ask(1, w(1, 3)).do(x)
			trees = append(trees, New(all, l), x)
		}
	}
	for i, x := range trees {
		before := stands(x, []int{1, 2})
		kept := look{servers: slices.Clone(before.servers)}
		for j := range before.helds {
			kept.helds = append(kept.helds, copied(before.helds[j]))
			kept.paths = append(kept.paths, slices.Clone(before.paths[j]))
		}
		again := stands(x, []int{1, 2})
		for j, held := range again.helds {
			spoil(held)
			path := again.paths[j][:cap(again.paths[j])]
			for k := range path {
				path[k] = path[k]*3 + 7
			}
		}
		if !alike(before, kept) || !alike(kept, stands(x, []int{1, 2})) {
			t.Fatalf("tree %d changed with what it told", i)
		}
	}
}

// R3: trees have nothing in common, though they are of the same ratio and servers.
func TestApart(t *testing.T) {
	all, l := ratio.Whole(1), []api.Server{at(-1, 1, 1), at(0, 1, 1)}
	a, b := New(all, l), New(all, l)
	does(t, a, join(1, 1, w(2, 3)))
	same(t, "Server", b.Server(1), -2)
	does(t, b, join(1, 0, w(1, 1)))
	same(t, "Held", helds(a, 3)+" "+helds(b, 3), "[2/3 2/3 2/3] [1 1 0]")
	does(t, a, free(1))
	same(t, "Held", helds(a, 3)+" "+helds(b, 3), "[0 0 0] [1 1 0]")
}

// R4: the same calls have the same answers, whichever way a map is gone through.
func TestAgain(t *testing.T) {
	numbers := make([]int, 24)
	for i := range numbers {
		numbers[i] = i
	}
	var first look
	for round := range 20 {
		x := tree(t, 5, at(-1, 4, 1), at(0, 3, 1), at(-1, 3, 2))
		for i, y := range some() {
			x.Join(i, i%4-1, y)
			x.Ask(i, some()[len(some())-1-i])
		}
		if round == 0 {
			first = stands(x, numbers)
		}
		if !alike(first, stands(x, numbers)) {
			t.Fatalf("round %d: %v, want %v", round, stands(x, numbers), first)
		}
	}
}
