package wire

import (
	"encoding/binary"
	"fmt"
	"math"
	"math/rand"
	"reflect"
	"slices"
	"strings"
	"testing"

	"regatta/api"
)

const (
	high  = 1 << 30
	most  = math.MaxInt
	least = math.MinInt
)

// The commands, each with its fields alone.
func join(server int, early bool, e, p int64) api.Cmd {
	return api.Cmd{Kind: 1, Server: server, Early: early, Weight: api.Weight{E: e, P: p}}
}
func leave(id int) api.Cmd { return api.Cmd{Kind: 2, ID: id} }
func reweight(id int, e, p int64) api.Cmd {
	return api.Cmd{Kind: 3, ID: id, Weight: api.Weight{E: e, P: p}}
}
func arrive(id, n int) api.Cmd { return api.Cmd{Kind: 4, ID: id, N: n} }
func tick(n int) api.Cmd       { return api.Cmd{Kind: 5, N: n} }
func super(server, core int, l ...api.Part) api.Cmd {
	return api.Cmd{Kind: 6, Server: server, Core: core, Parts: l}
}
func query(id int) api.Cmd { return api.Cmd{Kind: 7, ID: id} }

func cmds(l ...api.Cmd) []api.Cmd { return l }

// parts is n parts of e by p.
func parts(n int, e, p int64) []api.Part { return slices.Repeat([]api.Part{{E: e, P: p}}, n) }

// kinds is a command of each Kind, and those of one Kind that differ in what they are written as.
func kinds() []api.Cmd {
	return cmds(join(3, true, 2, 7), join(-1, false, 1, 1), leave(9), reweight(4, 5, 6), arrive(8, 300), tick(64),
		super(2, 1), super(0, 3, parts(1, 1, 4)...), super(-1, 0, api.Part{E: 1, P: 2}, api.Part{E: 3, P: 400}), super(5, 6, parts(8, 7, 9)...), query(63))
}

// little and great are a command of each Kind, with its fields the least that they may be, and the greatest.
func little() []api.Cmd {
	return cmds(join(-1, false, 0, 0), leave(0), reweight(0, 0, 0), arrive(0, 0), tick(0), super(-1, 0), query(0))
}
func great() []api.Cmd {
	return cmds(join(high-1, true, high, high), leave(high), reweight(high, high, high), arrive(high, high), tick(high),
		super(high-1, high, parts(8, high, high)...), query(high))
}

// turn is a part of a command that is a number: its name, the Kinds whose field it is, and how it is set.
type turn struct {
	name  string
	kinds []int
	set   func(c *api.Cmd, n int64)
}

// turns is all parts that are numbers, but Server, whose field is by one above it, and Kind, which is of all.
func turns() []turn {
	return []turn{
		{"ID", []int{2, 3, 4, 7}, func(c *api.Cmd, n int64) { c.ID = int(n) }},
		{"N", []int{4, 5}, func(c *api.Cmd, n int64) { c.N = int(n) }},
		{"Core", []int{6}, func(c *api.Cmd, n int64) { c.Core = int(n) }},
		{"E", []int{1, 3}, func(c *api.Cmd, n int64) { c.Weight.E = n }},
		{"P", []int{1, 3}, func(c *api.Cmd, n int64) { c.Weight.P = n }},
	}
}

func same(t *testing.T, what string, got, want any) {
	t.Helper()
	if got != want {
		t.Fatalf("%s: %v, want %v", what, got, want)
	}
}

// alike tells if two commands are the same, by the library's own look at all that they have; no parts may be nil, or empty.
func alike(a, b api.Cmd) bool {
	if len(a.Parts) == 0 && len(b.Parts) == 0 {
		a.Parts, b.Parts = nil, nil
	}
	return reflect.DeepEqual(a, b)
}

func alikes(a, b []api.Cmd) bool { return slices.EqualFunc(a, b, alike) }

// clone is commands of memory of their own.
func clone(l []api.Cmd) []api.Cmd {
	c := slices.Clone(l)
	for i := range c {
		c[i].Parts = slices.Clone(c[i].Parts)
	}
	return c
}

// may tells by the chapter's words if a command may be: it takes its fields from it, and what is left must be nothing.
func may(c api.Cmd) bool {
	left := c
	var l []int64
	switch c.Kind {
	case 1:
		left.Server, left.Early, left.Weight = 0, false, api.Weight{}
		l = []int64{c.Weight.E, c.Weight.P}
	case 2, 7:
		left.ID = 0
		l = []int64{int64(c.ID)}
	case 3:
		left.ID, left.Weight = 0, api.Weight{}
		l = []int64{int64(c.ID), c.Weight.E, c.Weight.P}
	case 4:
		left.ID, left.N = 0, 0
		l = []int64{int64(c.ID), int64(c.N)}
	case 5:
		left.N = 0
		l = []int64{int64(c.N)}
	case 6:
		left.Server, left.Core, left.Parts = 0, 0, nil
		l = []int64{int64(c.Core)}
		for _, p := range c.Parts {
			l = append(l, p.E, p.P)
		}
	default:
		return false
	}
	if c.Kind == 1 || c.Kind == 6 {
		l = append(l, max(int64(c.Server), -9)+1)
		if c.Server == most {
			return false
		}
	}
	for _, n := range l {
		if n < 0 || n > high {
			return false
		}
	}
	return len(c.Parts) <= 8 && alike(left, api.Cmd{Kind: c.Kind})
}

// plain writes any commands by the chapter's words, with the library's numbers of 7 bits a byte, if they may be or not.
func plain(l ...api.Cmd) string {
	var text strings.Builder
	for _, c := range l {
		n := []int64{int64(c.Kind)}
		early := int64(0)
		if c.Early {
			early = 1
		}
		server, id, e, p := int64(c.Server)+1, int64(c.ID), c.Weight.E, c.Weight.P
		switch c.Kind {
		case 1:
			n = append(n, server, early, e, p)
		case 2, 7:
			n = append(n, id)
		case 3:
			n = append(n, id, e, p)
		case 4:
			n = append(n, id, int64(c.N))
		case 5:
			n = append(n, int64(c.N))
		case 6:
			n = append(n, server, int64(c.Core), int64(len(c.Parts)))
			for _, x := range c.Parts {
				n = append(n, x.E, x.P)
			}
		}
		text.WriteString(numbers(n...))
	}
	return text.String()
}

// numbers writes numbers, one behind the other.
func numbers(l ...int64) string {
	var b []byte
	for _, n := range l {
		b = binary.AppendUvarint(b, uint64(n))
	}
	return string(b)
}

// begins is the command that a text begins with, if one does, and its length: it is read without any care, and then held against what it is written as.
func begins(text string) (api.Cmd, int, bool) {
	b := []byte(text)
	next := func() int64 {
		n, k := binary.Uvarint(b)
		if k < 1 || n > 1<<40 {
			b = nil
			return 1 << 40
		}
		b = b[k:]
		return int64(n)
	}
	c := api.Cmd{Kind: int(next())}
	switch c.Kind {
	case 1:
		c = join(int(next())-1, next() == 1, next(), next())
	case 2:
		c = leave(int(next()))
	case 3:
		c = reweight(int(next()), next(), next())
	case 4:
		c = arrive(int(next()), int(next()))
	case 5:
		c = tick(int(next()))
	case 6:
		c = super(int(next())-1, int(next()))
		for n := next(); n > 0 && len(b) > 0; n-- {
			c.Parts = append(c.Parts, api.Part{E: next(), P: next()})
		}
	case 7:
		c = query(int(next()))
	}
	if !may(c) || !strings.HasPrefix(text, plain(c)) {
		return api.Cmd{}, 0, false
	}
	return c, len(plain(c)), true
}

// find is what Read should tell, by the chapter's words.
func find(text string) ([]api.Cmd, int, api.Errno) {
	var l []api.Cmd
	at := 0
	for at < len(text) {
		if len(l) == 4096 {
			return l, at, 15
		}
		c, n, ok := begins(text[at:])
		if !ok {
			return l, at, 10
		}
		l, at = append(l, c), at+n
	}
	return l, at, 0
}

// read holds Read against find, and what it read against what was read (P18.3).
func read(t *testing.T, text string) {
	t.Helper()
	l, at, e := Read(text)
	want, to, with := find(text)
	if at != to || e != with || !alikes(l, want) {
		t.Fatalf("Read(%x): %v, %v, %d, want %v, %v, %d", text, l, at, int(e), want, to, int(with))
	}
	if at < 0 || at > len(text) || e == 0 && at != len(text) {
		t.Fatalf("Read(%x): place %d, %d", text, at, int(e))
	}
	if Bytes(l) != text[:at] {
		t.Fatalf("Bytes of what %x is read as: %x", text, Bytes(l))
	}
}

// wrong asks that Read tells these commands alone, the end of them, and that error.
func wrong(t *testing.T, ahead []api.Cmd, behind string, e api.Errno) {
	t.Helper()
	text := plain(ahead...)
	l, at, got := Read(text + behind)
	if !alikes(l, ahead) || at != len(text) || got != e {
		t.Fatalf("Read(%x %x): %v, %v, %d, want %v, %v, %d", text, behind, l, at, int(got), ahead, len(text), int(e))
	}
}

// checked holds Check, Size and Bytes of a command against what it should be told (P18.1).
func checked(t *testing.T, c api.Cmd, want bool) {
	t.Helper()
	text := ""
	if want {
		text = plain(c)
	}
	if Check(c) != want {
		t.Fatalf("Check(%+v): %v, want %v", c, !want, want)
	}
	if Size(c) != len(text) {
		t.Fatalf("Size(%+v): %d, want %d", c, Size(c), len(text))
	}
	if got := Bytes(cmds(c)); got != text {
		t.Fatalf("Bytes(%+v): %x, want %x", c, got, text)
	}
	if want {
		if l, at, e := Read(text); e != 0 || at != len(text) || !alikes(l, cmds(c)) {
			t.Fatalf("Read(%x): %v, %v, %d, want %v", text, l, at, int(e), c)
		}
	}
}

// some is a command that may be, by chance.
func some(d *rand.Rand) api.Cmd {
	num := func() int64 { return d.Int63n(int64(2)<<d.Intn(30)) >> d.Intn(2) }
	switch d.Intn(7) {
	case 0:
		return join(int(num())-1, d.Intn(2) == 0, num(), num())
	case 1:
		return leave(int(num()))
	case 2:
		return reweight(int(num()), num(), num())
	case 3:
		return arrive(int(num()), int(num()))
	case 4:
		return tick(int(num()))
	case 5:
		return query(int(num()))
	}
	c := super(int(num())-1, int(num()))
	for range d.Intn(9) {
		c.Parts = append(c.Parts, api.Part{E: num(), P: num()})
	}
	return c
}

// mixed is a command of a few numbers that often may not be, by chance.
func mixed(d *rand.Rand) api.Cmd {
	c := some(d)
	for range d.Intn(3) {
		n := []int{least, -2, -1, 0, 1, 2, high - 1, high, high + 1, most}[d.Intn(10)]
		switch d.Intn(9) {
		case 0:
			c.Kind = d.Intn(10) - 1
		case 1:
			c.ID = n
		case 2:
			c.Server = n
		case 3:
			c.N = n
		case 4:
			c.Core = n
		case 5:
			c.Weight.E = int64(n)
		case 6:
			c.Weight.P = int64(n)
		case 7:
			c.Early = !c.Early
		default:
			c.Parts = parts(d.Intn(11), int64(n), 1)
		}
	}
	return c
}

// The chapter's two examples, byte for byte, and one of each Kind (P18.1, P18.2).
func TestExamples(t *testing.T) {
	for _, x := range []struct {
		c    api.Cmd
		text string
	}{
		{join(-1, true, 2, 3), "\x01\x00\x01\x02\x03"},
		{tick(1), "\x05\x01"},
		{join(0, false, 127, 128), "\x01\x01\x00\x7f\x80\x01"},
		{leave(300), "\x02\xac\x02"},
		{reweight(1, 0, 16384), "\x03\x01\x00\x80\x80\x01"},
		{arrive(63, high), "\x04\x3f\x80\x80\x80\x80\x04"},
		{super(126, 2), "\x06\x7f\x02\x00"},
		{super(127, 0, api.Part{E: 1, P: 4}, api.Part{E: 5, P: 6}), "\x06\x80\x01\x00\x02\x01\x04\x05\x06"},
		{query(high - 1), "\x07\xff\xff\xff\xff\x03"},
	} {
		same(t, "Check", Check(x.c), true)
		same(t, "Size", Size(x.c), len(x.text))
		same(t, "Bytes", Bytes(cmds(x.c)), x.text)
		l, at, e := Read(x.text)
		if len(l) != 1 || !alike(l[0], x.c) || at != len(x.text) || e != api.OK {
			t.Fatalf("Read(%x): %v, %v, %d, want %v", x.text, l, at, int(e), x.c)
		}
	}
}

// P18.1: commands of each Kind, with fields the least and the greatest that they may be, and between.
func TestCheckKinds(t *testing.T) {
	for _, c := range slices.Concat(kinds(), little(), great()) {
		checked(t, c, true)
	}
	for i, c := range great() {
		same(t, fmt.Sprint("Size of the greatest of Kind ", c.Kind), Size(c), []int{1 + 5 + 1 + 5 + 5, 6, 16, 11, 6, 1 + 5 + 5 + 1 + 80, 6}[i])
	}
}

// P18.1: Kinds that are none, of commands that have nothing else, and of those that would be another Kind's.
func TestCheckKind(t *testing.T) {
	for _, k := range []int{least, -high, -256, -1, 0, 8, 9, 127, 128, 129, 256, 257, 263, high, 1<<32 + 1, most} {
		checked(t, api.Cmd{Kind: k}, false)
		for _, c := range kinds() {
			c.Kind = k
			checked(t, c, false)
		}
	}
	// Nothing but a Kind is a command of each, as all fields may be 0.
	for k := 1; k <= 7; k++ {
		checked(t, api.Cmd{Kind: k}, true)
	}
}

// P18.1: each field at its bounds, and beyond them; and parts that are no field of a Kind, which must be nothing.
func TestCheckFields(t *testing.T) {
	for _, c := range slices.Concat(kinds(), little(), great()) {
		for _, x := range turns() {
			field := slices.Contains(x.kinds, c.Kind)
			for _, n := range []int64{math.MinInt64, -1 << 32, -high, -2, -1, 0, 1, 127, 128, high - 1, high, high + 1, 1 << 31, 1<<32 + 1, math.MaxInt64} {
				d := c
				x.set(&d, n)
				checked(t, d, n == 0 || field && n > 0 && n <= high)
			}
		}
		d := c
		d.Early = !c.Early
		checked(t, d, c.Kind == 1)
	}
}

// P18.1: Server, whose field is by one above it: from -1 to one below 2^30; of other Kinds nothing.
func TestCheckServer(t *testing.T) {
	for _, c := range slices.Concat(kinds(), little(), great()) {
		field := c.Kind == 1 || c.Kind == 6
		for _, n := range []int{least, least + 1, -high, -2, -1, 0, 1, 126, 127, 128, high - 2, high - 1, high, high + 1, most - 1, most} {
			c.Server = n
			checked(t, c, n == 0 || field && n >= -1 && n <= high-1)
		}
	}
}

// P18.1: Parts of none to more than 8, where they are a field and where they must be nothing.
func TestCheckParts(t *testing.T) {
	for _, c := range slices.Concat(kinds(), little(), great()) {
		for _, n := range []int{0, 1, 2, 7, 8, 9, 10, 100, 100000} {
			for _, p := range []api.Part{{}, {E: 1, P: 2}, {E: high, P: high}} {
				c.Parts = parts(n, p.E, p.P)
				checked(t, c, n == 0 || c.Kind == 6 && n <= 8)
			}
		}
		c.Parts = []api.Part{}
		checked(t, c, true)
		c.Parts = nil
		checked(t, c, true)
	}
}

// P18.1: the numbers of each of a supertask's Parts at their bounds, and beyond them.
func TestCheckPart(t *testing.T) {
	for many := 1; many <= 8; many++ {
		for i := range many {
			for _, n := range []int64{math.MinInt64, -high, -1, 0, 1, high - 1, high, high + 1, 1<<32 + 1, math.MaxInt64} {
				c := super(1, 2, parts(many, 3, 4)...)
				c.Parts[i].E = n
				checked(t, c, n >= 0 && n <= high)
				c = super(-1, 0, parts(many, high, 0)...)
				c.Parts[i].P = n
				checked(t, c, n >= 0 && n <= high)
			}
		}
	}
}

// P18.1: Check, Size and Bytes of commands by chance, of which many may not be, against the chapter's words.
func TestCheckChance(t *testing.T) {
	d := rand.New(rand.NewSource(1))
	no := 0
	for range 60000 {
		c := mixed(d)
		checked(t, c, may(c))
		if !may(c) {
			no++
		}
	}
	if no < 15000 || no > 45000 {
		t.Fatalf("%d commands may not be", no)
	}
}

// P18.1: Bytes of none, and of commands that may not be, alone and among others that may.
func TestBytes(t *testing.T) {
	same(t, "Bytes of nil", Bytes(nil), "")
	same(t, "Bytes of none", Bytes([]api.Cmd{}), "")
	same(t, "Bytes of those that may not be", Bytes(cmds(api.Cmd{}, api.Cmd{Kind: 8}, tick(-1), join(-2, false, 1, 1), super(0, 0, parts(9, 1, 1)...))), "")
	l := kinds()
	same(t, "Bytes of each Kind", Bytes(l), plain(l...))
	for i := range len(l) + 1 {
		for _, no := range []api.Cmd{{}, {Kind: 8}, leave(high + 1), {Kind: 5, ID: 1}, {Kind: 2, Parts: parts(1, 0, 0)}, join(0, true, 1, -1)} {
			same(t, fmt.Sprint("Bytes with one at ", i, " that may not be"), Bytes(slices.Insert(slices.Clone(l), i, no, no)), plain(l...))
		}
	}
}

// P18.1: Size is the length of Bytes of that command alone, and those of a row are summed in its Bytes.
func TestSize(t *testing.T) {
	d := rand.New(rand.NewSource(2))
	for range 3000 {
		var l []api.Cmd
		sum, text := 0, ""
		for range d.Intn(12) {
			c := mixed(d)
			l = append(l, c)
			sum += Size(c)
			if may(c) {
				text += plain(c)
			}
			same(t, fmt.Sprint("Size of ", c), Size(c), len(Bytes(cmds(c))))
		}
		same(t, fmt.Sprint("Bytes of ", l), Bytes(l), text)
		same(t, fmt.Sprint("Sizes of ", l), sum, len(text))
	}
	// Each field has a byte more from 2^7, 2^14, 2^21 and 2^28 on.
	for k := 1; k <= 4; k++ {
		n := 1 << (7 * k)
		same(t, "Size one below", Size(tick(n-1)), 1+k)
		same(t, "Size at", Size(tick(n)), 2+k)
		same(t, "Size, Server one below", Size(super(n-2, 0)), 3+k)
		same(t, "Size, Server at", Size(super(n-1, 0)), 4+k)
	}
}

// P18.1: Same of commands that are the same, and of those that differ in one part alone, if they may be or not.
func TestSame(t *testing.T) {
	all := func(a, b api.Cmd, want bool) {
		t.Helper()
		if Same(a, b) != want || Same(b, a) != want {
			t.Fatalf("Same(%+v, %+v): %v, %v, want %v", a, b, Same(a, b), Same(b, a), want)
		}
	}
	full := api.Cmd{Kind: 9, ID: 1, Server: -5, N: 2, Core: 3, Weight: api.Weight{E: 4, P: 5}, Early: true, Parts: parts(3, 6, 7)}
	for _, a := range slices.Concat(cmds(full, api.Cmd{}, api.Cmd{Kind: -1, Parts: parts(20, -1, 0)}), kinds(), little(), great()) {
		all(a, clone(cmds(a))[0], true)
		for _, by := range []int64{-1, 1, high, 1 << 32, math.MinInt64} {
			for i, set := range []func(*api.Cmd){
				func(c *api.Cmd) { c.Kind += int(by) },
				func(c *api.Cmd) { c.ID += int(by) },
				func(c *api.Cmd) { c.Server += int(by) },
				func(c *api.Cmd) { c.N += int(by) },
				func(c *api.Cmd) { c.Core += int(by) },
				func(c *api.Cmd) { c.Weight.E += by },
				func(c *api.Cmd) { c.Weight.P += by },
				func(c *api.Cmd) { c.Early = !c.Early },
				func(c *api.Cmd) { c.Parts = append(c.Parts, api.Part{}) },
				func(c *api.Cmd) { c.Parts = append(parts(1, 6, 7), c.Parts...) },
			} {
				b := clone(cmds(a))[0]
				set(&b)
				if alike(a, b) {
					t.Fatalf("part %d was not turned", i)
				}
				all(a, b, false)
			}
			for i := range a.Parts {
				b := clone(cmds(a))[0]
				b.Parts[i].E += by
				all(a, b, false)
				b = clone(cmds(a))[0]
				b.Parts[i].P += by
				all(a, b, false)
				b = clone(cmds(a))[0]
				b.Parts = slices.Delete(b.Parts, i, i+1)
				all(a, b, false)
			}
		}
	}
	// No parts are the same, nil or empty; the same parts in another order are not.
	all(api.Cmd{Kind: 6, Parts: nil}, api.Cmd{Kind: 6, Parts: []api.Part{}}, true)
	all(super(0, 0, api.Part{E: 1, P: 2}, api.Part{E: 3, P: 4}), super(0, 0, api.Part{E: 3, P: 4}, api.Part{E: 1, P: 2}), false)
	all(super(0, 0, api.Part{E: 1, P: 2}), super(0, 0, api.Part{E: 2, P: 1}), false)
	all(reweight(1, 2, 3), reweight(1, 3, 2), false)
	all(arrive(1, 2), arrive(2, 1), false)
}

// P18.1: Same of any two of many commands, against the library's own look.
func TestSameChance(t *testing.T) {
	d := rand.New(rand.NewSource(3))
	var l []api.Cmd
	for range 300 {
		c := mixed(d)
		l = append(l, c, clone(cmds(c))[0])
	}
	for _, a := range l {
		for _, b := range l {
			if Same(a, b) != alike(a, b) {
				t.Fatalf("Same(%+v, %+v): %v", a, b, Same(a, b))
			}
		}
	}
}

// P18.2: no bytes; commands of each Kind, alone, twice, and all in a row, and that end at any place.
func TestRead(t *testing.T) {
	l, at, e := Read("")
	if len(l) != 0 || at != 0 || e != 0 {
		t.Fatalf("Read of nothing: %v, %v, %d", l, at, int(e))
	}
	all := slices.Concat(kinds(), little(), great())
	for _, c := range all {
		wrong(t, cmds(c), "", 0)
		wrong(t, cmds(c, c), "", 0)
	}
	wrong(t, all, "", 0)
	text := plain(all...)
	for i := range text {
		read(t, text[:i])
		read(t, text[i:])
	}
}

// P18.2: bytes that end within a command, at each place of it, alone and behind others: the place is the end of those.
func TestReadEnds(t *testing.T) {
	for _, ahead := range [][]api.Cmd{nil, cmds(tick(1)), great(), kinds()} {
		for _, c := range slices.Concat(kinds(), little(), great()) {
			text := plain(c)
			for i := 1; i < len(text); i++ {
				wrong(t, ahead, text[:i], 10)
			}
		}
	}
}

// P18.2: bytes that begin no command, behind commands that are read: Kinds that are none.
func TestReadKinds(t *testing.T) {
	for _, ahead := range [][]api.Cmd{nil, cmds(tick(1)), great(), kinds()} {
		for k := range 256 {
			if k < 1 || k > 7 {
				for _, tail := range []string{"", "\x00", "\x01", strings.Repeat("\x01", 90), "\x05\x01"} {
					wrong(t, ahead, string([]byte{byte(k)})+tail, 10)
				}
			}
		}
		for _, k := range []int64{8, 127, 128, 129, 133, 261, 1<<32 + 5, math.MaxInt64} {
			wrong(t, ahead, numbers(k, 1, 1, 1, 1, 1), 10)
		}
		// A Kind in more bytes than it has.
		wrong(t, ahead, "\x85\x00\x01", 10)
		wrong(t, ahead, "\x85\x80\x00\x01", 10)
	}
}

// replaced is the bytes of a command of each Kind, as numbers, with its field i written otherwise.
func replaced(t *testing.T, i int, text string) []string {
	t.Helper()
	var out []string
	for _, c := range slices.Concat(kinds(), little(), great()) {
		b, s := []byte(plain(c)), ""
		for k := 0; len(b) > 0; k++ {
			_, n := binary.Uvarint(b)
			if k == i {
				out = append(out, s+text+string(b[n:]))
			}
			s += string(b[:n])
			b = b[n:]
		}
	}
	return out
}

// P18.2: numbers that end in a 0 byte behind others, that are too long, or too great, in place of each number.
func TestReadNumbers(t *testing.T) {
	bad := []string{
		"\x80\x00", "\x81\x00", "\xff\x00", "\x80\x80\x00", "\x85\x80\x00", "\x80\x80\x80\x80\x00", "\xff\xff\xff\xff\x00",
		"\x80\x80\x80\x80\x80\x00", "\x81\x80\x80\x80\x80\x00", "\x80\x80\x80\x80\x80\x01", "\xff\xff\xff\xff\xff\x01", "\x80\x80\x80\x80\x80\x80\x80\x80\x80\x01",
		"\x81\x80\x80\x80\x80\x80\x80\x80\x80\x02", "\x81\x80\x80\x80\x80\x80\x80\x80\x80\x80\x00", strings.Repeat("\x80", 100) + "\x01", strings.Repeat("\x81", 20),
		numbers(high + 1), numbers(high + 2), numbers(1<<31 - 1), numbers(1 << 31), numbers(1<<32 + 1), numbers(1<<35 - 1), numbers(1 << 35), numbers(1<<35 + 1),
		numbers(1 << 40), numbers(1<<62 + 1), numbers(math.MaxInt64), numbers(-1), numbers(math.MinInt64), numbers(math.MinInt64 + 1),
	}
	for i := range 20 {
		for _, text := range bad {
			for _, s := range replaced(t, i, text) {
				wrong(t, nil, s, 10)
				wrong(t, cmds(leave(4), query(high)), s, 10)
				read(t, s)
			}
		}
		for _, n := range []int64{0, 1, 2, 8, 9, 127, 128, high - 1, high, high + 1} {
			for _, s := range replaced(t, i, numbers(n)) {
				read(t, s)
			}
		}
	}
}

// P18.2: fields at 2^30 are read, and one above are not, of each Kind; nor is an Early of 2, nor are 9 Parts.
func TestReadFields(t *testing.T) {
	h, a := numbers(high), numbers(high+1)
	for _, x := range []struct {
		text string
		want api.Errno
	}{
		{"\x01" + h + "\x01" + h + h, 0}, {"\x01" + a + "\x01" + h + h, 10}, {"\x01" + h + "\x01" + a + h, 10}, {"\x01" + h + "\x01" + h + a, 10},
		{"\x01\x01\x00\x01\x01", 0}, {"\x01\x01\x01\x01\x01", 0}, {"\x01\x01\x02\x01\x01", 10}, {"\x01\x01\x03\x01\x01", 10}, {"\x01\x01\x7f\x01\x01", 10},
		{"\x01\x01\x80\x01\x01\x01", 10}, {"\x01\x01\x81\x00\x01\x01", 10}, {"\x01\x01" + h + "\x01\x01", 10},
		{"\x02" + h, 0}, {"\x02" + a, 10}, {"\x07" + h, 0}, {"\x07" + a, 10}, {"\x05" + h, 0}, {"\x05" + a, 10},
		{"\x03" + h + h + h, 0}, {"\x03" + a + h + h, 10}, {"\x03" + h + a + h, 10}, {"\x03" + h + h + a, 10},
		{"\x04" + h + h, 0}, {"\x04" + a + h, 10}, {"\x04" + h + a, 10},
		{"\x06" + h + h + "\x01" + h + h, 0}, {"\x06" + a + h + "\x01" + h + h, 10}, {"\x06" + h + a + "\x01" + h + h, 10},
		{"\x06" + h + h + "\x01" + a + h, 10}, {"\x06" + h + h + "\x01" + h + a, 10},
		{"\x06" + h + h + "\x02" + h + h + a + h, 10}, {"\x06" + h + h + "\x02" + h + h + h + a, 10},
		{"\x06\x00\x00\x08" + strings.Repeat("\x01", 16), 0}, {"\x06\x00\x00\x09" + strings.Repeat("\x01", 18), 10},
		{"\x06\x00\x00\x0a" + strings.Repeat("\x01", 20), 10}, {"\x06\x00\x00\x7f" + strings.Repeat("\x01", 254), 10}, {"\x06\x00\x00" + h + strings.Repeat("\x01", 99), 10},
		{"\x06\x00\x00\x00", 0}, {"\x06\x00\x00\x08" + strings.Repeat("\x01", 15), 10},
	} {
		read(t, x.text)
		l, at, e := Read(x.text)
		n, end := 0, 0
		if x.want == 0 {
			n, end = 1, len(x.text)
		}
		if len(l) != n || at != end || e != x.want {
			t.Fatalf("Read(%x): %v, %v, %d, want %d", x.text, l, at, int(e), int(x.want))
		}
		if x.want != 0 {
			wrong(t, cmds(tick(2), leave(3)), x.text, x.want)
		}
	}
}

// P18.2: 4096 commands are read, and no more of 4097, or of any bytes behind them.
func TestReadMost(t *testing.T) {
	d := rand.New(rand.NewSource(4))
	for _, make := range []func() api.Cmd{func() api.Cmd { return tick(1) }, func() api.Cmd { return some(d) }, func() api.Cmd { return great()[5] }} {
		var l []api.Cmd
		for range 4100 {
			l = append(l, make())
		}
		for _, n := range []int{4094, 4095, 4096} {
			wrong(t, l[:n], "", 0)
		}
		for n := 4097; n <= 4100; n++ {
			wrong(t, l[:4096], plain(l[4096:n]...), 15)
		}
		// One that is no command is met ahead of the 4097th, and not behind the 4096th.
		wrong(t, l[:4095], "\x00"+plain(l[:9]...), 10)
		wrong(t, l[:4096], "\x00", 15)
		wrong(t, l[:4096], "\x05", 15)
	}
}

// P18.2, P18.3: all texts of up to two bytes, and of three of few, against the chapter's words.
func TestReadShort(t *testing.T) {
	for a := range 256 {
		read(t, string([]byte{byte(a)}))
		for b := range 256 {
			read(t, string([]byte{byte(a), byte(b)}))
		}
	}
	few := []byte{0, 1, 2, 3, 4, 5, 6, 7, 8, 9, 0x7f, 0x80, 0x81, 0xff}
	for a := range 9 {
		for _, b := range few {
			for _, c := range few {
				for _, e := range few {
					read(t, string([]byte{byte(a), b, c, e}))
					read(t, string([]byte{byte(a), b, c, e, 1}))
				}
			}
		}
	}
}

// P18.2, P18.3: many bytes by chance; Read ends, and tells a place within them.
func TestReadChance(t *testing.T) {
	d := rand.New(rand.NewSource(5))
	full := 0
	for range 200000 {
		b := make([]byte, d.Intn(40))
		for i := range b {
			switch d.Intn(8) {
			case 0:
				b[i] = byte(d.Intn(256))
			case 1:
				b[i] = byte(0x80 + d.Intn(3))
			default:
				b[i] = byte(d.Intn(9))
			}
		}
		read(t, string(b))
		if _, _, e := Read(string(b)); e == 0 {
			full++
		}
	}
	if full < 5000 {
		t.Fatalf("%d texts are commands", full)
	}
}

// P18.3: what was written is read, and what was read is written so: rows of commands by chance, of which those that may not be are left out, with each byte turned, cut and put in.
func TestRound(t *testing.T) {
	d := rand.New(rand.NewSource(6))
	for range 2500 {
		var l, good []api.Cmd
		for range d.Intn(8) {
			c := mixed(d)
			l = append(l, c)
			if may(c) {
				good = append(good, c)
			}
		}
		text := Bytes(l)
		got, at, e := Read(text)
		if e != 0 || at != len(text) || !alikes(got, good) {
			t.Fatalf("Read(%x): %v, %v, %d, want %v", text, got, at, int(e), good)
		}
		same(t, "Bytes of what was read", Bytes(got), text)
		for i := range text {
			b := []byte(text)
			b[i] ^= 1 << d.Intn(8)
			read(t, string(b))
			read(t, text[:i]+string([]byte{byte(d.Intn(256))})+text[i:])
			read(t, text[:i]+text[i+1:])
		}
	}
}

// R3: calls change nothing of what they are given, and what is told shares no memory with it, nor with another answer.
func TestMemory(t *testing.T) {
	l := slices.Concat(kinds(), cmds(api.Cmd{Kind: 2, Parts: parts(3, 1, 2)}, super(0, 0, parts(9, 1, 2)...)), great())
	// Parts with room behind them show what is put there.
	for i := range l {
		l[i].Parts = append(make([]api.Part, 0, 20), l[i].Parts...)
	}
	kept := clone(l)
	text := Bytes(l)
	for i, c := range l {
		Check(c)
		Size(c)
		Same(c, l[0])
		for _, p := range c.Parts[len(c.Parts):20] {
			same(t, fmt.Sprint("what is behind the Parts of ", i), p, api.Part{})
		}
	}
	if !alikes(l, kept) {
		t.Fatalf("the commands are %v, and were %v", l, kept)
	}
	a, _, _ := Read(text)
	b, _, _ := Read(text)
	want := clone(a)
	wipe := func(l []api.Cmd) {
		for i := range l {
			p := l[i].Parts[:cap(l[i].Parts)]
			for k := range p {
				p[k] = api.Part{E: -9, P: -9}
			}
			l[i] = api.Cmd{Kind: -9, Parts: p}
		}
	}
	// Each of an answer's Parts is a list of its own, up to all the room that it has.
	for i := range a {
		wipe(a[i : i+1])
		if !alikes(a[i+1:], want[i+1:]) {
			t.Fatalf("command %d shares memory with another one", i)
		}
	}
	if !alikes(b, want) {
		t.Fatal("two answers share memory")
	}
	wipe(l)
	if c, _, _ := Read(text); !alikes(b, want) || !alikes(c, want) {
		t.Fatal("an answer changed with what was handed in")
	}
}

// R4: the same calls have the same answers, whatever was asked between them.
func TestAgain(t *testing.T) {
	d := rand.New(rand.NewSource(7))
	var l []api.Cmd
	for range 200 {
		l = append(l, mixed(d))
	}
	text, bad := Bytes(l), Bytes(l)+"\x09"
	first, at, e := Read(bad)
	for range 5 {
		Read(text[:d.Intn(len(text))])
		Bytes(l[:d.Intn(len(l))])
		same(t, "Bytes again", Bytes(l), text)
		again, to, with := Read(bad)
		if !alikes(again, first) || at != to || e != with || e != 10 || at != len(text) {
			t.Fatalf("Read again: %v, %d, %v, %d", to, int(with), at, int(e))
		}
	}
}

// R5, P1: long lists and long texts end, whatever is in them.
func TestLong(t *testing.T) {
	n := 1 << 20
	same(t, "Bytes of many", Bytes(slices.Repeat(cmds(tick(1)), n)), strings.Repeat("\x05\x01", n))
	same(t, "Bytes of many that may not be", Bytes(make([]api.Cmd, n)), "")
	for _, x := range []string{"\x05\x01", "\x80", "\xff", "\x00", "\x06\x00\x00\x08", "\x01", "\x06\x01\x01\x00"} {
		text := strings.Repeat(x, n)
		l, at, e := Read(text)
		want, to, with := find(text)
		if at != to || e != with || !alikes(l, want) {
			t.Fatalf("Read of many %x: %d commands, %v, %d, want %d, %v, %d", x, len(l), at, int(e), len(want), to, int(with))
		}
	}
	checked(t, super(0, 0, parts(n, 1, 1)...), false)
	checked(t, api.Cmd{Kind: 2, Parts: parts(n, 0, 0)}, false)
}
