package engine

import (
	"fmt"
	"math"
	"math/big"
	"math/rand"
	"runtime"
	"slices"
	"testing"

	"regatta/api"
	"regatta/place"
	"regatta/prio"
	"regatta/window"
)

const (
	end    = 1 << 40 // the last slot that comes next
	many   = 64      // so many quanta may wait, and so many tasks may there be
	kept   = 4096    // so many runs are told of
	top    = math.MaxInt64
	bottom = math.MinInt64
)

func w(e, p int64) api.Weight { return api.Weight{E: e, P: p} }

// some are weights that may be: light ones, heavy ones, 1, small and great ones, some of them not in lowest terms.
func some() []api.Weight {
	const p = api.MaxP
	return []api.Weight{
		w(1, 1), w(5, 5), w(p, p), w(1, 2), w(2, 3), w(8, 11), w(16, 22), w(6, 11), w(9, 10), w(p-1, p), w(p/2, p), w(p/2+1, p),
		w(1, 3), w(2, 5), w(2, 7), w(5, 11), w(1, 10), w(3, 30), w(1, p), w(2, p), w(p/2-1, p), w(349525, p), w(524286, 1048573),
	}
}

// small are weights whose windows come soon.
func small() []api.Weight {
	return []api.Weight{
		w(1, 1), w(1, 2), w(2, 3), w(3, 4), w(4, 5), w(5, 6), w(8, 11), w(6, 11), w(9, 10), w(4, 6),
		w(1, 3), w(1, 4), w(2, 5), w(2, 7), w(3, 7), w(5, 11), w(1, 10), w(2, 8),
	}
}

// wrong are weights that may not be.
func wrong() []api.Weight {
	return []api.Weight{
		{}, w(0, 1), w(0, 7), w(0, api.MaxP), w(-1, 1), w(-1, 7), w(-3, 7), w(1, 0), w(1, -1), w(-1, -1), w(-7, -3), w(0, -1), w(-1, 0),
		w(2, 1), w(8, 7), w(api.MaxP, api.MaxP-1), w(api.MaxP+1, api.MaxP), w(1<<32+1, 2), w(1, 1<<32+2),
		w(1, api.MaxP+1), w(api.MaxP, api.MaxP+1), w(api.MaxP+1, api.MaxP+1), w(1, top), w(top, top), w(top, 1), w(1<<62, 1<<62),
		w(bottom, bottom), w(bottom, 1), w(1, bottom), w(bottom, top), w(top, bottom),
	}
}

// noIDs are numbers that no task can have, some of which would be one's, if they were cut to fewer bits; noNumbers are those of which no quanta can arrive.
func noIDs() []int {
	return []int{-1, -2, -64, many, many + 1, 1023, 1 << 8, 1 << 16, 1 << 32, 1<<32 + 1, -1 << 32, top, bottom, bottom + 1}
}
func noNumbers() []int { return []int{0, -1, -64, many + 1, many + 2, 1 << 32, 1<<32 + 1, top, bottom} }

// noCores are numbers that are no pins, of m cores.
func noCores(m int) []int {
	return []int{-2, -3, -m - 1, m, m + 1, 1 << 32, 1<<32 - 1, -1 << 32, top, bottom}
}

func same(t *testing.T, what string, got, want any) {
	t.Helper()
	if got != want {
		t.Fatalf("%s: %v, want %v", what, got, want)
	}
}

// rows asks that two rows are the same.
func rows[T comparable](t *testing.T, what string, got, want []T) {
	t.Helper()
	if len(got) < 10 && !slices.Equal(got, want) {
		t.Fatalf("%s: %v, want %v", what, got, want)
	}
	same(t, what+": how many", len(got), len(want))
	for i := range got {
		if got[i] != want[i] {
			t.Fatalf("%s: %v at %d, want %v", what, got[i], i, want[i])
		}
	}
}

// idle is how a task stands that is none.
var idle = api.Stand{Last: -1}

// other is a task as the chapter tells it, by package window alone.
type other struct {
	w, next      api.Weight
	early        bool
	pin, last    int
	since, rule  int64
	stage, kept  int
	offset, came int64
	waits        []api.Sub
	ran          api.Sub
	done         int64
}

func fresh(w api.Weight, now int64, early bool, pin, last int) *other {
	return &other{w: w, early: early, pin: pin, last: last, since: now, offset: now, stage: 1}
}

func (o *other) arrive(now int64, n int) {
	for range n {
		o.came++
		o.offset = max(o.offset, now-window.Release(o.w, o.came))
		sub, e := window.Of(o.w, o.came, o.offset)
		if e != api.OK {
			panic(e.Error())
		}
		o.waits = append(o.waits, sub)
	}
}

// cut is how many wait no more; the rule's time is known then.
func (o *other) cut(now int64) int {
	var stay []api.Sub
	for _, s := range o.waits {
		if s.Release <= now {
			stay = append(stay, s)
		}
	}
	n := len(o.waits) - len(stay)
	o.waits, o.rule = stay, now
	last := o.ran
	if len(stay) > 0 {
		last = stay[len(stay)-1]
	}
	switch {
	case len(stay) == 0 && o.done == 0:
	case 2*o.w.E >= o.w.P:
		o.rule = max(now, last.Deadline, last.Group)
	default:
		o.rule = max(now, last.Deadline+int64(last.Bit))
	}
	return n
}

func (o *other) ready(now int64) bool {
	return len(o.waits) > 0 && (o.early || o.waits[0].Release <= now)
}

// plain is an engine as the chapter tells it: each time, all tasks are gone over.
type plain struct {
	m      int
	now    int64
	tasks  map[int]*other
	events []api.Event
	notes  []api.Note // of all runs
}

func (p *plain) settle() {
	for id := range many {
		o := p.tasks[id]
		if o == nil || o.stage == 1 || o.rule > p.now || len(o.waits) > 0 {
			continue
		}
		if o.stage == 2 {
			delete(p.tasks, id)
			p.events = append(p.events, api.Event{At: p.now, ID: id, Kind: 2})
			continue
		}
		p.tasks[id] = fresh(o.next, p.now, o.early, o.pin, o.last)
		p.tasks[id].arrive(p.now, o.kept)
		p.events = append(p.events, api.Event{At: p.now, ID: id, Kind: 3})
	}
}

func (p *plain) put(id int, w api.Weight, early bool, pin int) api.Errno {
	if id < 0 || id > 63 || w.E < 1 || w.E > w.P || w.P > 1<<20 || pin < -1 || pin >= p.m {
		return api.ErrArg
	}
	if p.tasks[id] != nil {
		return api.ErrThere
	}
	for _, o := range p.tasks {
		if pin != -1 && o.pin == pin {
			return api.ErrPin
		}
	}
	p.tasks[id] = fresh(w, p.now, early, pin, -1)
	p.settle()
	return api.OK
}

func (p *plain) arrive(id, n int) api.Errno {
	o := p.tasks[id]
	switch {
	case id < 0 || id > 63 || n < 1 || n > 64:
		return api.ErrArg
	case o == nil:
		return api.ErrNone
	case o.stage == 2:
		return api.ErrState
	case o.stage == 3 && o.kept+n > 64, o.stage == 1 && len(o.waits)+n > 64:
		return api.ErrFull
	case o.stage == 3:
		o.kept += n
	default:
		o.arrive(p.now, n)
	}
	p.settle()
	return api.OK
}

func (p *plain) leave(id int) api.Errno {
	o := p.tasks[id]
	switch {
	case id < 0 || id > 63:
		return api.ErrArg
	case o == nil:
		return api.ErrNone
	case o.stage != 1:
		return api.ErrState
	}
	o.cut(p.now)
	o.stage = 2
	p.settle()
	return api.OK
}

func (p *plain) reweight(id int, w api.Weight) api.Errno {
	o := p.tasks[id]
	switch {
	case id < 0 || id > 63 || w.E < 1 || w.E > w.P || w.P > 1<<20:
		return api.ErrArg
	case o == nil:
		return api.ErrNone
	case o.stage != 1:
		return api.ErrState
	}
	o.kept, o.stage, o.next = o.cut(p.now), 3, w
	p.settle()
	return api.OK
}

func (p *plain) tick() (api.Slot, api.Errno) {
	if p.now == end {
		return api.Slot{}, api.ErrEnd
	}
	var l []api.Entry
	for id := range many {
		if o := p.tasks[id]; o != nil && o.ready(p.now) {
			l = append(l, api.Entry{ID: id, Sub: o.waits[0]})
		}
	}
	l = prio.Sort(prio.Pick(l, p.m))
	var runners []api.Runner
	for _, e := range l {
		runners = append(runners, api.Runner{ID: e.ID, Pin: p.tasks[e.ID].pin, Last: p.tasks[e.ID].last})
	}
	cores, e := place.Assign(runners, p.m)
	if e != api.OK {
		panic(e.Error())
	}
	slot := api.Slot{At: p.now}
	for core := range p.m {
		i := slices.Index(cores, core)
		if i < 0 {
			continue
		}
		o, sub := p.tasks[l[i].ID], l[i].Sub
		o.waits, o.ran, o.last = slices.Clone(o.waits[1:]), sub, core
		o.done++
		ready := o.since
		if !o.early && sub.Release > ready {
			ready = sub.Release
		}
		slot.Runs = append(slot.Runs, api.Run{ID: l[i].ID, Core: core, Index: sub.Index})
		p.notes = append(p.notes, api.Note{ID: l[i].ID, Since: o.since, Sub: sub, Ready: ready, At: p.now, Core: core})
	}
	p.now++
	p.settle()
	return slot, api.OK
}

func (p *plain) stand(id int) api.Stand {
	o := p.tasks[id]
	if o == nil {
		return idle
	}
	return api.Stand{Stage: o.stage, Weight: o.w, Waits: len(o.waits), Done: o.done, Last: o.last}
}

// pair is an engine, and what it is held against: each call is done to both, which must tell the same, and stand the same behind it.
type pair struct {
	t *testing.T
	g *Engine
	p *plain
}

// both is an engine that there must be.
func both(t *testing.T, m int, at int64) pair {
	t.Helper()
	g := New(m, at)
	if g == nil {
		t.Fatalf("New(%d, %d): nil", m, at)
	}
	return pair{t, g, &plain{m: m, now: at, tasks: map[int]*other{}}}
}

func (x pair) alike(what string) {
	x.t.Helper()
	same(x.t, "Now behind "+what, x.g.Now(), x.p.now)
	for id := -1; id <= many; id++ {
		if got, want := x.g.Stand(id), x.p.stand(id); got != want {
			x.t.Fatalf("Stand of %d at %d behind %s: %v, want %v", id, x.p.now, what, got, want)
		}
	}
}

// err asks that what was done tells that error of both, and is alike behind it.
func (x pair) err(what string, got, plainly, want api.Errno) {
	x.t.Helper()
	if got != plainly || got != want {
		x.t.Fatalf("%s at %d: error %d, plainly %d, want %d", what, x.p.now, got, plainly, want)
	}
	x.alike(what)
}

func (x pair) put(id int, w api.Weight, early bool, pin int, want api.Errno) {
	x.t.Helper()
	x.err(fmt.Sprint("Put ", id, w, early, pin), x.g.Put(id, w, early, pin), x.p.put(id, w, early, pin), want)
}

func (x pair) arrive(id, n int, want api.Errno) {
	x.t.Helper()
	x.err(fmt.Sprint("Arrive ", id, " ", n), x.g.Arrive(id, n), x.p.arrive(id, n), want)
}

func (x pair) leave(id int, want api.Errno) {
	x.t.Helper()
	x.err(fmt.Sprint("Leave ", id), x.g.Leave(id), x.p.leave(id), want)
}

func (x pair) reweight(id int, w api.Weight, want api.Errno) {
	x.t.Helper()
	x.err(fmt.Sprint("Reweight ", id, w), x.g.Reweight(id, w), x.p.reweight(id, w), want)
}

// add puts a task of which n quanta arrive.
func (x pair) add(id int, w api.Weight, early bool, pin, n int) {
	x.t.Helper()
	x.put(id, w, early, pin, api.OK)
	if n > 0 {
		x.arrive(id, n, api.OK)
	}
}

// tick is who ran, core by core, and their subtasks.
func (x pair) tick() []api.Run {
	x.t.Helper()
	got, e := x.g.Tick()
	want, plainly := x.p.tick()
	same(x.t, "Tick: At", got.At, want.At)
	rows(x.t, fmt.Sprint("Tick at ", want.At), got.Runs, want.Runs)
	x.err("Tick", e, plainly, api.OK)
	return got.Runs
}

// ticks is n of them, and tells the numbers of those that ran: a semicolon ahead of each slot.
func (x pair) ticks(n int) string {
	x.t.Helper()
	said := ""
	for range n {
		said += ";"
		for _, r := range x.tick() {
			said += fmt.Sprint(" ", r.ID)
		}
	}
	return said
}

// settled asks that just that settled since it was last asked.
func (x pair) settled(want ...api.Event) {
	x.t.Helper()
	rows(x.t, "Events, plainly", x.p.events, want)
	rows(x.t, "Events", x.g.Events(), want)
	rows(x.t, "Events, told already", x.g.Events(), nil)
	x.p.events = nil
}

func left(at int64, id int) api.Event    { return api.Event{At: at, ID: id, Kind: 2} }
func renewed(at int64, id int) api.Event { return api.Event{At: at, ID: id, Kind: 3} }
func run(id, core int, i int64) api.Run  { return api.Run{ID: id, Core: core, Index: i} }

func (x pair) stand(id int) api.Stand { return x.g.Stand(id) }

func (x pair) stands(id int, want api.Stand) {
	x.t.Helper()
	same(x.t, "Stand", x.stand(id), want)
}

func (x pair) stage(id int, want int) {
	x.t.Helper()
	same(x.t, "stage", x.stand(id).Stage, want)
}

// ran is one tick, in which just those run, core by core.
func (x pair) ran(want ...api.Run) {
	x.t.Helper()
	rows(x.t, "Tick", x.tick(), want)
}

// runs is n ticks, in which those run, as ticks tells it.
func (x pair) runs(n int, want string) {
	x.t.Helper()
	same(x.t, "who runs", x.ticks(n), want)
}

// noted asks that the notes are those of the last runs of all.
func (x pair) noted() {
	x.t.Helper()
	rows(x.t, "Notes", x.g.Notes(), x.p.notes[max(0, len(x.p.notes)-kept):])
}

// told asks that what settled, and what is noted, is the same of both.
func (x pair) told() {
	x.t.Helper()
	rows(x.t, "Events", x.g.Events(), x.p.events)
	x.p.events = nil
	x.noted()
}

// P19.3: the chapter's example, and others, written out slot by slot.
func TestExample(t *testing.T) {
	x := both(t, 1, 0)
	x.put(0, w(1, 2), false, -1, api.OK)
	x.put(1, w(1, 2), false, -1, api.OK)
	x.arrive(0, 2, api.OK)
	x.arrive(1, 2, api.OK)
	x.ran(run(0, 0, 1))
	x.ran(run(1, 0, 1))
	x.ran(run(0, 0, 2))
	x.ran(run(1, 0, 2))
	x.ran()
	x.noted()

	x = both(t, 2, 0)
	for id := range 3 {
		x.add(id, w(2, 3), false, -1, 4)
	}
	x.ran(run(0, 0, 1), run(1, 1, 1))
	x.ran(run(0, 0, 2), run(2, 1, 1))
	x.ran(run(2, 0, 2), run(1, 1, 2))
	x.ran(run(0, 0, 3), run(1, 1, 3))
	x.ran(run(2, 0, 3), run(0, 1, 4))
	x.ran(run(2, 0, 4), run(1, 1, 4))
	x.ran()
	x.noted()
}

// P19.1: how many cores there may be, and where an engine may begin.
func TestNew(t *testing.T) {
	slots := []int64{0, 1, 2, 1000, 1<<32 - 1, 1 << 32, end - 1, end}
	noSlots := []int64{-1, -2, -end, bottom, bottom + 1, end + 1, end + 2, 1 << 41, 1 << 62, top - 1, top}
	cores := []int{1, 2, 3, 64, 1000, 1023, 1024}
	wrong := []int{0, -1, -2, -1024, bottom, 1025, 1026, 1 << 16, 1 << 32, 1<<32 + 1, top - 1, top}
	for _, m := range cores {
		for _, at := range slots {
			x := both(t, m, at)
			x.alike("New")
			rows(t, "Events", x.g.Events(), nil)
			rows(t, "Notes", x.g.Notes(), nil)
			x.put(0, w(1, 2), false, m-1, api.OK)
			x.put(1, w(1, 2), false, m, api.ErrArg)
		}
		for _, at := range noSlots {
			if New(m, at) != nil {
				t.Errorf("New(%d, %d): an engine", m, at)
			}
		}
	}
	for _, m := range wrong {
		for _, at := range slices.Concat(slots, noSlots) {
			if New(m, at) != nil {
				t.Errorf("New(%d, %d): an engine", m, at)
			}
		}
	}
}

// P19.1: now is one more behind each tick, whether one runs or none, and behind nothing else.
func TestNow(t *testing.T) {
	for _, at := range []int64{0, 7, 1 << 33, end - 40} {
		x := both(t, 2, at)
		for n := range int64(40) {
			same(t, "Now", x.g.Now(), at+n)
			switch n {
			case 5:
				x.add(3, w(1, 3), false, -1, 4)
			case 6:
				x.reweight(3, w(1, 4), api.OK)
			case 20:
				x.leave(3, api.OK)
			}
			same(t, "Now, behind commands", x.g.Now(), at+n)
			slot, _ := x.g.Tick()
			x.p.tick()
			same(t, "At", slot.At, at+n)
		}
		same(t, "Now", x.g.Now(), at+40)
		x.told()
	}
}

// P19.3: the last slot, and what can be asked behind it.
func TestEnd(t *testing.T) {
	x := both(t, 1, end-1)
	x.add(0, w(1, 2), true, -1, 3)
	x.add(1, w(1, 1), false, -1, 1)
	x.add(2, w(1, 1), false, -1, 0)
	x.ran(run(1, 0, 1))
	same(t, "Now", x.g.Now(), int64(end))
	for range 3 {
		slot, e := x.g.Tick()
		if e != api.ErrEnd || slot.At != 0 || len(slot.Runs) != 0 {
			t.Fatalf("Tick at 2^40: %v, error %d", slot, e)
		}
		x.alike("Tick at 2^40")
	}
	x.arrive(0, many-3, api.OK)
	x.arrive(0, 1, api.ErrFull)
	x.put(3, w(2, 3), false, 0, api.OK)
	x.put(4, w(2, 3), false, 0, api.ErrPin)
	x.arrive(3, 2, api.OK)
	x.leave(3, api.OK)
	x.reweight(2, w(1, 3), api.OK)
	x.arrive(2, 2, api.OK)
	x.leave(1, api.OK)
	x.reweight(0, w(1, 5), api.OK)
	x.stage(0, api.Reweights)
	x.stage(3, api.Leaving)
	x.settled(renewed(end, 2), left(end, 1))
	x.noted()

	x = both(t, 1, end)
	x.add(0, w(1, 1), true, 0, 1)
	slot, e := x.g.Tick()
	if e != api.ErrEnd || slot.At != 0 || len(slot.Runs) != 0 {
		t.Fatalf("Tick of one that begins at 2^40: %v, error %d", slot, e)
	}
	x.alike("Tick of one that begins at 2^40")
	x.told()
}

// P19.2: which numbers tasks can have, and that each is its own.
func TestIDs(t *testing.T) {
	x := both(t, 3, 9)
	for _, id := range noIDs() {
		x.put(id, w(1, 2), false, -1, api.ErrArg)
		x.arrive(id, 1, api.ErrArg)
		x.leave(id, api.ErrArg)
		x.reweight(id, w(1, 3), api.ErrArg)
		x.stands(id, idle)
	}
	for id := range many {
		x.stands(id, idle)
		x.arrive(id, 1, api.ErrNone)
		x.leave(id, api.ErrNone)
		x.reweight(id, w(1, 3), api.ErrNone)
		x.put(id, w(1, int64(id)+1), id%2 == 0, -1, api.OK)
		x.stands(id, api.Stand{Stage: api.Live, Weight: w(1, int64(id)+1), Last: -1})
		x.arrive(id, id+1, api.OK)
		x.stands(id, api.Stand{Stage: api.Live, Weight: w(1, int64(id)+1), Waits: id + 1, Last: -1})
	}
	for _, id := range noIDs() {
		x.put(id, w(1, 2), false, -1, api.ErrArg)
		x.arrive(id, 1, api.ErrArg)
		x.leave(id, api.ErrArg)
		x.reweight(id, w(1, 3), api.ErrArg)
		x.stands(id, idle)
	}
	for range 300 {
		x.tick()
	}
	x.told()
}

// P19.2: which weights may be, of tasks that are put, and that ask; the others are refused ahead of all else.
func TestWeights(t *testing.T) {
	for _, good := range some() {
		x := both(t, 2, 3)
		x.put(5, good, false, -1, api.OK)
		x.put(6, w(1, 2), false, 1, api.OK)
		x.reweight(6, good, api.OK)
		x.settled(renewed(3, 6))
		x.arrive(5, 3, api.OK)
		x.arrive(6, 3, api.OK)
		x.ran(run(5, 0, 1), run(6, 1, 1))
		same(t, "Weight", x.stand(5).Weight, good)
		same(t, "Weight, asked for", x.stand(6).Weight, good)
	}
	for _, bad := range wrong() {
		x := both(t, 2, 3)
		x.put(5, bad, false, -1, api.ErrArg)
		x.reweight(5, bad, api.ErrArg)
		x.add(5, w(2, 3), false, 0, 2)
		x.add(6, w(2, 3), false, 1, 1)
		x.tick()
		x.leave(6, api.OK)
		for range 2 {
			x.put(4, bad, false, 0, api.ErrArg)
			x.put(5, bad, false, 0, api.ErrArg)
			x.put(6, bad, true, -1, api.ErrArg)
			x.reweight(5, bad, api.ErrArg)
			x.reweight(6, bad, api.ErrArg)
			x.reweight(7, bad, api.ErrArg)
			x.reweight(64, bad, api.ErrArg)
			if x.stand(5).Stage == api.Live {
				x.reweight(5, w(1, 2), api.OK)
			}
		}
		x.settled()
	}
}

// P19.2: Put: errors in their order, where several are due.
func TestPutErrors(t *testing.T) {
	x := both(t, 3, 0)
	x.put(5, w(1, 2), false, 2, api.OK)
	x.put(64, w(1, 2), false, 2, api.ErrArg)
	x.put(5, w(0, 2), false, 2, api.ErrArg)
	x.put(5, w(1, 2), false, 3, api.ErrArg)
	x.put(5, w(1, 2), false, -2, api.ErrArg)
	x.put(6, w(3, 2), false, 2, api.ErrArg)
	x.put(-1, w(3, 2), false, -2, api.ErrArg)
	x.put(5, w(1, 2), false, 2, api.ErrThere)
	x.put(5, w(1, 3), true, 1, api.ErrThere)
	x.put(5, w(1, 3), true, -1, api.ErrThere)
	x.put(6, w(1, 3), false, 2, api.ErrPin)
	x.put(6, w(1, 3), false, 1, api.OK)
	x.put(5, w(1, 3), false, 1, api.ErrThere)
	x.arrive(5, 1, api.OK)
	x.ran(run(5, 2, 1))
	x.leave(5, api.OK)
	x.put(5, w(1, 3), false, 0, api.ErrThere)
	x.put(5, w(1, 3), false, 1, api.ErrThere)
	x.put(7, w(1, 3), false, 2, api.ErrPin)
	x.reweight(6, w(1, 4), api.OK)
	x.put(6, w(1, 3), false, 0, api.ErrThere)
	x.settled(renewed(1, 6))
	x.ran()
	x.settled(left(2, 5))
	x.put(7, w(1, 3), false, 2, api.OK)
	x.put(5, w(1, 3), false, 2, api.ErrPin)
	x.put(5, w(1, 3), false, 1, api.ErrPin)
	x.put(5, w(1, 3), false, 0, api.OK)
}

// P19.2: pins: each core there is, and -1; none that is none; one that another task has, as long as it is there.
func TestPins(t *testing.T) {
	for _, m := range []int{1, 2, 3, 64, 1024} {
		x := both(t, m, 0)
		for _, pin := range noCores(m) {
			x.put(0, w(1, 2), false, pin, api.ErrArg)
		}
		x.put(0, w(1, 2), false, m-1, api.OK)
		for id := 1; id < 5; id++ {
			x.put(id, w(1, 2), false, -1, api.OK)
			x.put(9, w(1, 2), false, m-1, api.ErrPin)
		}
		if m > 1 {
			x.put(9, w(1, 2), false, 0, api.OK)
			x.put(10, w(1, 2), false, 0, api.ErrPin)
		}
		x.arrive(0, 2, api.OK)
		x.ran(run(0, m-1, 1))
		x.reweight(0, w(1, 3), api.OK)
		x.put(11, w(1, 2), false, m-1, api.ErrPin)
		x.ran()
		x.settled(renewed(2, 0))
		x.put(11, w(1, 2), false, m-1, api.ErrPin)
		x.ran(run(0, m-1, 1))
		x.leave(0, api.OK)
		for now := int64(3); now < 5; now++ {
			x.put(11, w(1, 2), false, m-1, api.ErrPin)
			x.settled()
			x.ran()
		}
		x.settled(left(5, 0))
		x.add(11, w(1, 2), false, m-1, 1)
		x.put(0, w(1, 2), false, m-1, api.ErrPin)
		x.ran(run(11, m-1, 1))
		x.noted()
	}
}

// P19.2: how many quanta arrive, and how many may wait.
func TestArrive(t *testing.T) {
	x := both(t, 1, 4)
	x.put(0, w(1, 2), false, -1, api.OK)
	for _, n := range noNumbers() {
		x.arrive(0, n, api.ErrArg)
		x.arrive(1, n, api.ErrArg)
		x.arrive(-1, n, api.ErrArg)
	}
	x.arrive(0, 1, api.OK)
	x.arrive(0, many, api.ErrFull)
	x.arrive(0, many-1, api.OK)
	x.arrive(0, 1, api.ErrFull)
	x.arrive(1, 1, api.ErrNone)
	x.ran(run(0, 0, 1))
	x.arrive(0, 2, api.ErrFull)
	x.arrive(0, 1, api.OK)
	x.arrive(0, 1, api.ErrFull)
	for _, n := range noNumbers() {
		x.arrive(0, n, api.ErrArg)
	}
	for range 300 {
		x.tick()
	}
	x.arrive(0, many, api.OK)
	x.stands(0, api.Stand{Stage: api.Live, Weight: w(1, 2), Waits: many, Done: many + 1})
	x.noted()
}

// P19.2: of a task that leaves none arrive, and it can ask for nothing.
func TestErrorsOfOneThatLeaves(t *testing.T) {
	x := both(t, 1, 0)
	x.add(2, w(1, 5), false, -1, 3)
	x.tick()
	x.leave(2, api.OK)
	x.stands(2, api.Stand{Stage: api.Leaving, Weight: w(1, 5), Done: 1})
	for range 4 {
		x.arrive(2, 1, api.ErrState)
		x.arrive(2, many, api.ErrState)
		x.arrive(2, 0, api.ErrArg)
		x.arrive(2, many+1, api.ErrArg)
		x.leave(2, api.ErrState)
		x.reweight(2, w(1, 4), api.ErrState)
		x.reweight(2, w(5, 4), api.ErrArg)
		x.put(2, w(1, 5), false, -1, api.ErrThere)
		x.settled()
		x.ran()
	}
	x.settled(left(5, 2))
	x.arrive(2, 1, api.ErrNone)
	x.arrive(2, 65, api.ErrArg)
	x.leave(2, api.ErrNone)
	x.reweight(2, w(1, 4), api.ErrNone)
	x.reweight(2, w(5, 4), api.ErrArg)
	x.stands(2, idle)
	x.put(2, w(1, 7), false, -1, api.OK)
	x.stands(2, api.Stand{Stage: api.Live, Weight: w(1, 7), Last: -1})
}

// P19.2: of a task that asked quanta are kept, up to 64, those that were cut among them; it can't leave, and not ask again.
func TestErrorsOfOneThatAsked(t *testing.T) {
	for cut := range many {
		x := both(t, 1, 0)
		x.add(2, w(1, 5), true, -1, cut+1)
		x.tick()
		x.reweight(2, w(1, 4), api.OK)
		asked := api.Stand{Stage: api.Reweights, Weight: w(1, 5), Done: 1}
		x.stands(2, asked)
		x.leave(2, api.ErrState)
		x.reweight(2, w(1, 3), api.ErrState)
		x.reweight(2, w(5, 4), api.ErrArg)
		x.put(2, w(1, 5), false, -1, api.ErrThere)
		for _, n := range noNumbers() {
			x.arrive(2, n, api.ErrArg)
		}
		if cut > 0 {
			x.arrive(2, many-cut+1, api.ErrFull)
			x.arrive(2, many, api.ErrFull)
		}
		x.arrive(2, many-cut-min(1, many-cut-1), api.OK)
		x.stands(2, asked)
		if many-cut > 1 {
			x.arrive(2, 2, api.ErrFull)
			x.arrive(2, 1, api.OK)
		}
		x.arrive(2, 1, api.ErrFull)
		x.arrive(2, 65, api.ErrArg)
		x.stands(2, asked)
		x.runs(4, ";;;;")
		x.settled(renewed(5, 2))
		x.stands(2, api.Stand{Stage: api.Live, Weight: w(1, 4), Waits: many})
		x.arrive(2, 1, api.ErrFull)
		x.runs(3, "; 2; 2; 2")
		x.noted()
	}
}

// P19.2: 64 that were cut are all kept: the engine's one is early, so that none of them ran, but none is released, either.
func TestKeptOf64(t *testing.T) {
	x := both(t, 1, 0)
	x.add(0, w(1, 100), true, -1, 1)
	x.ran(run(0, 0, 1))
	x.arrive(0, many, api.OK)
	x.reweight(0, w(1, 2), api.OK)
	x.stands(0, api.Stand{Stage: api.Reweights, Weight: w(1, 100), Done: 1})
	x.arrive(0, 1, api.ErrFull)
	for range 99 {
		x.settled()
		x.ran()
	}
	x.settled(renewed(100, 0))
	x.stands(0, api.Stand{Stage: api.Live, Weight: w(1, 2), Waits: many})
	x.arrive(0, 1, api.ErrFull)
	x.ran(run(0, 0, 1))
	x.arrive(0, 1, api.OK)
}

// P19.2: a light task that leaves: its last subtask's deadline, and its bit.
func TestLightLeaves(t *testing.T) {
	for _, c := range []struct {
		w        api.Weight
		quanta   int
		asks, at int64
	}{
		{w(2, 7), 1, 1, 5}, // 0 to 4, bit 1
		{w(2, 7), 1, 4, 5}, // at its deadline
		{w(2, 7), 1, 5, 5}, // at the rule's time
		{w(2, 7), 1, 9, 9}, // behind it
		{w(2, 7), 2, 1, 5}, // the second one, 3 to 7, is cut
		{w(2, 7), 2, 4, 7}, // it ran at 3; bit 0
		{w(2, 7), 2, 7, 7}, // behind both windows
		{w(1, 3), 1, 1, 3}, // bit 0
		{w(2, 5), 3, 6, 9}, // 5 to 8, bit 1
		{w(1, 10), 1, 1, 10},
	} {
		for _, early := range []bool{false, true} {
			if early && c.quanta > 1 {
				continue
			}
			x := both(t, 1, 0)
			x.add(7, c.w, early, -1, c.quanta)
			for x.p.now < c.asks {
				x.tick()
			}
			x.leave(7, api.OK)
			for x.p.now < c.at {
				x.stage(7, api.Leaving)
				x.settled()
				x.ran()
			}
			x.settled(left(c.at, 7))
			x.stands(7, idle)
		}
	}
}

// P19.2: a heavy task that leaves: its last subtask's group, or its deadline.
func TestHeavyLeaves(t *testing.T) {
	for _, c := range []struct {
		w        api.Weight
		quanta   int
		asks, at int64
	}{
		{w(8, 11), 1, 1, 4}, // 0 to 2, group 4
		{w(8, 11), 2, 2, 4}, // 1 to 3, group 4
		{w(8, 11), 3, 3, 8}, // 2 to 5, group 8
		{w(8, 11), 3, 7, 8},
		{w(8, 11), 3, 8, 8},
		{w(8, 11), 3, 9, 9},
		{w(8, 11), 8, 3, 8}, // all that come then are cut
		{w(1, 2), 1, 1, 2},
		{w(1, 2), 2, 3, 4},
		{w(1, 1), 1, 1, 1}, // at once, as its deadline is now
		{w(1, 1), 9, 4, 5}, // the fifth one is released, and runs
		{w(3, 4), 1, 1, 4},
		{w(9, 10), 1, 1, 10},
	} {
		x := both(t, 1, 0)
		x.add(7, c.w, false, -1, c.quanta)
		for x.p.now < c.asks {
			x.tick()
		}
		x.leave(7, api.OK)
		for x.p.now < c.at {
			x.stage(7, api.Leaving)
			x.settled()
			x.tick()
		}
		x.settled(left(c.at, 7))
		x.stands(7, idle)
		x.noted()
	}
}

// P19.2: who never ran, and of whom none waits, leaves at once, as does who asked for another weight; so it is with one whose rule's time is over.
func TestSettlesAtOnce(t *testing.T) {
	for _, x := range some() {
		for _, early := range []bool{false, true} {
			y := both(t, 2, 6)
			y.put(3, x, early, 1, api.OK)
			y.leave(3, api.OK)
			y.settled(left(6, 3))
			y.stands(3, idle)
			y.put(3, x, early, 1, api.OK)
			y.reweight(3, w(1, 3), api.OK)
			y.settled(renewed(6, 3))
			y.stands(3, api.Stand{Stage: api.Live, Weight: w(1, 3), Last: -1})
			y.reweight(3, x, api.OK)
			y.reweight(3, w(1, 2), api.OK)
			y.settled(renewed(6, 3), renewed(6, 3))
			y.arrive(3, 1, api.OK)
			y.ran(run(3, 1, 1))
			y.reweight(3, x, api.OK)
			y.settled()
			y.ran()
			y.settled(renewed(8, 3))
			y.stands(3, api.Stand{Stage: api.Live, Weight: x, Last: 1})
			y.leave(3, api.OK)
			y.settled(left(8, 3))
		}
	}
}

// P19.2, P19.3: quanta that were released run, though the task leaves, also behind the rule's time; those that were not wait no more.
func TestLeavesWithQuantaThatWait(t *testing.T) {
	x := both(t, 1, 0)
	x.add(0, w(1, 1), false, -1, 7)
	x.add(1, w(1, 3), false, -1, 4)
	x.runs(3, "; 0; 0; 0")
	// Of 1 wait four: 0 to 3, 3 to 6, 6 to 9, 9 to 12. The first one is too late by now, and goes ahead.
	x.leave(1, api.OK)
	x.stands(1, api.Stand{Stage: api.Leaving, Weight: w(1, 3), Waits: 2, Last: -1})
	x.ran(run(1, 0, 1))
	x.runs(3, "; 0; 0; 0")
	// The rule's time, 6, is over, but one waits.
	x.settled()
	x.stands(1, api.Stand{Stage: api.Leaving, Weight: w(1, 3), Waits: 1, Done: 1})
	x.ran(run(1, 0, 2))
	x.settled(left(8, 1))
	x.stands(1, idle)
	x.ran(run(0, 0, 7))
	x.ran()
	x.noted()
}

// P19.2: of an early task that leaves all that are not released are cut, though they are ready; those that ran ahead count for the rule's time.
func TestEarlyLeaves(t *testing.T) {
	x := both(t, 1, 0)
	x.add(0, w(1, 4), true, -1, 6)
	x.runs(3, "; 0; 0; 0")
	x.leave(0, api.OK)
	x.stands(0, api.Stand{Stage: api.Leaving, Weight: w(1, 4), Done: 3})
	for range 9 {
		x.settled()
		x.ran()
	}
	x.settled(left(12, 0))

	// Of two early ones, of which one runs at a time, those that are released run still.
	x = both(t, 1, 0)
	x.add(0, w(1, 2), true, -1, 4)
	x.add(1, w(1, 2), true, -1, 4)
	x.runs(2, "; 0; 1")
	x.leave(0, api.OK)
	x.leave(1, api.OK)
	x.stands(0, api.Stand{Stage: api.Leaving, Weight: w(1, 2), Waits: 1, Done: 1})
	x.runs(2, "; 0; 1")
	x.settled(left(4, 0), left(4, 1))
	x.noted()
}

// P19.2: what settles, is told by the numbers of the tasks, also where several settle at once, at the end of a slot; what settles behind commands, in the order of those.
func TestSettlesByNumbers(t *testing.T) {
	x := both(t, 4, 0)
	for _, id := range []int{63, 0, 40, 7} {
		x.add(id, w(1, 3), false, -1, 3)
	}
	x.ran(run(0, 0, 1), run(7, 1, 1), run(40, 2, 1), run(63, 3, 1))
	x.leave(40, api.OK)
	x.reweight(63, w(1, 2), api.OK)
	x.leave(0, api.OK)
	x.reweight(7, w(1, 2), api.OK)
	x.ran()
	x.settled()
	x.ran()
	x.settled(left(3, 0), renewed(3, 7), left(3, 40), renewed(3, 63))
	x.ran(run(7, 1, 1), run(63, 3, 1))

	x = both(t, 4, 5)
	for _, id := range []int{63, 0, 40, 7} {
		x.put(id, w(1, 3), false, -1, api.OK)
	}
	x.leave(40, api.OK)
	x.reweight(63, w(1, 2), api.OK)
	x.ran()
	x.leave(0, api.OK)
	x.reweight(7, w(1, 2), api.OK)
	x.reweight(63, w(2, 3), api.OK)
	x.put(40, w(1, 1), false, -1, api.OK)
	x.leave(40, api.OK)
	x.settled(left(5, 40), renewed(5, 63), left(6, 0), renewed(6, 7), renewed(6, 63), left(6, 40))

	// All of 64 at once, of rules' times that all are over, as the last of each runs.
	x = both(t, 64, 0)
	for id := many - 1; id >= 0; id-- {
		x.add(id, w(1, 2), false, -1, 2)
		x.leave(id, api.OK)
	}
	x.tick()
	x.settled()
	x.tick()
	var want []api.Event
	for id := range many {
		want = append(want, left(2, id))
	}
	x.settled(want...)
}

// P19.2: behind a command and behind a slot, nobody settles that could not, and who can is not kept waiting.
func TestSettlesInTime(t *testing.T) {
	for _, c := range small() {
		for slots := range 15 {
			for _, early := range []bool{false, true} {
				x := both(t, 2, 2)
				x.add(0, c, early, -1, 5)
				x.add(1, c, !early, -1, 5)
				x.ticks(slots)
				x.leave(0, api.OK)
				x.reweight(1, w(1, 2), api.OK)
				for range 60 {
					x.tick()
					x.told()
				}
				x.stands(0, idle)
				same(t, "Weight", x.stand(1).Weight, w(1, 2))
			}
		}
	}
}

// P19.2: a task that has its new weight: its first slot, the quanta that were kept, its core at last, its pin; and it is early, as it was.
func TestReweight(t *testing.T) {
	x := both(t, 3, 10)
	x.add(0, w(1, 3), false, -1, 1)
	x.add(1, w(2, 5), false, -1, 5)
	x.add(2, w(1, 2), false, 0, 1)
	// 1 goes ahead of 0, as its Bit is 1, and 2 of both.
	x.ran(run(2, 0, 1), run(1, 1, 1), run(0, 2, 1))
	x.reweight(1, w(1, 1), api.OK)
	x.stands(1, api.Stand{Stage: api.Reweights, Weight: w(2, 5), Done: 1, Last: 1})
	x.arrive(1, 2, api.OK)
	x.ran()
	x.arrive(1, 1, api.OK)
	x.ran()
	x.settled()
	x.stands(1, api.Stand{Stage: api.Reweights, Weight: w(2, 5), Done: 1, Last: 1})
	// 10 to 13, bit 1: the rule's time is 14.
	x.ran()
	x.settled(renewed(14, 1))
	x.stands(1, api.Stand{Stage: api.Live, Weight: w(1, 1), Waits: 7, Last: 1})
	for i := int64(1); i <= 3; i++ {
		x.ran(run(1, 1, i))
	}
	x.stands(1, api.Stand{Stage: api.Live, Weight: w(1, 1), Waits: 4, Done: 3, Last: 1})
	rows(t, "Notes", x.g.Notes()[3:], []api.Note{
		{ID: 1, Since: 14, Sub: api.Sub{Index: 1, Release: 14, Deadline: 15, Group: 15}, Ready: 14, At: 14, Core: 1},
		{ID: 1, Since: 14, Sub: api.Sub{Index: 2, Release: 15, Deadline: 16, Group: 16}, Ready: 15, At: 15, Core: 1},
		{ID: 1, Since: 14, Sub: api.Sub{Index: 3, Release: 16, Deadline: 17, Group: 17}, Ready: 16, At: 16, Core: 1},
	})
	// It can ask again, and leave.
	x.reweight(1, w(1, 4), api.OK)
	x.ran(run(1, 1, 4))
	x.settled(renewed(18, 1))
	x.ran(run(1, 1, 1))
	x.leave(1, api.OK)
	x.ticks(3)
	x.settled(left(22, 1))

	for _, early := range []bool{false, true} {
		x = both(t, 2, 0)
		x.add(0, w(1, 2), early, 1, 4)
		x.ran(run(0, 1, 1))
		x.reweight(0, w(1, 3), api.OK)
		x.ran()
		x.settled(renewed(2, 0))
		said := "; 0;;; 0;;; 0;"
		if early {
			said = "; 0; 0; 0;;;;;"
		}
		x.runs(8, said)
		x.put(1, w(1, 2), false, 1, api.ErrPin)
		x.noted()
	}
}

// P19.2: of one that asked quanta that are released run by the old weight, and those that are kept come behind all of them.
func TestReweightWithQuantaThatWait(t *testing.T) {
	x := both(t, 1, 0)
	x.add(0, w(1, 1), false, -1, 8)
	x.add(1, w(1, 4), false, -1, 4)
	x.runs(4, "; 0; 0; 0; 0")
	x.reweight(1, w(1, 2), api.OK)
	x.stands(1, api.Stand{Stage: api.Reweights, Weight: w(1, 4), Waits: 2, Last: -1})
	x.arrive(1, 1, api.OK)
	x.stands(1, api.Stand{Stage: api.Reweights, Weight: w(1, 4), Waits: 2, Last: -1})
	x.runs(6, "; 1; 0; 0; 0; 0; 1")
	x.settled(renewed(10, 1))
	x.stands(1, api.Stand{Stage: api.Live, Weight: w(1, 2), Waits: 3})
	x.runs(6, "; 1;; 1;; 1;")
	x.noted()
}

// P19.3: tasks that come late: their windows begin where they come, and so do all behind them.
func TestLate(t *testing.T) {
	x := both(t, 1, 0)
	x.put(0, w(1, 3), false, -1, api.OK)
	x.put(1, w(1, 3), true, -1, api.OK)
	x.ticks(4)
	x.arrive(0, 1, api.OK)
	x.runs(3, "; 0;;")
	x.arrive(0, 3, api.OK)
	x.arrive(1, 2, api.OK)
	// 0 is 7 to 10 by now, then 10 to 13, 13 to 16; 1 is 7 to 10, then 10 to 13, and early.
	x.runs(8, "; 0; 1; 1; 0;;; 0;")
	rows(t, "Notes", x.g.Notes(), []api.Note{
		{ID: 0, Sub: api.Sub{Index: 1, Release: 4, Deadline: 7}, Ready: 4, At: 4},
		{ID: 0, Sub: api.Sub{Index: 2, Release: 7, Deadline: 10}, Ready: 7, At: 7},
		{ID: 1, Sub: api.Sub{Index: 1, Release: 7, Deadline: 10}, At: 8},
		{ID: 1, Sub: api.Sub{Index: 2, Release: 10, Deadline: 13}, At: 9},
		{ID: 0, Sub: api.Sub{Index: 3, Release: 10, Deadline: 13}, Ready: 10, At: 10},
		{ID: 0, Sub: api.Sub{Index: 4, Release: 13, Deadline: 16}, Ready: 13, At: 13},
	})
	x.noted()
}

// P19.3: a task that is not early waits for each of its releases, and an early one for none; neither runs twice in a slot.
func TestEarly(t *testing.T) {
	for _, c := range some() {
		for _, at := range []int64{0, 5} {
			x := both(t, 3, at)
			x.add(0, c, false, -1, 40)
			x.add(1, c, true, -1, 40)
			early := ""
			for x.p.now < at+40 {
				runs := x.tick()
				is := slices.ContainsFunc(runs, func(r api.Run) bool { return r.ID == 0 })
				due := false
				for i := int64(1); i <= 40; i++ {
					due = due || at+window.Release(c, i) == x.p.now-1
				}
				same(t, fmt.Sprint("runs at its release, ", c), is, due)
				if slices.ContainsFunc(runs, func(r api.Run) bool { return r.ID == 1 }) {
					early += "x"
				}
			}
			same(t, "slots in which the early one runs", len(early), 40)
			x.noted()
		}
	}
}

// P19.3: Ready, in a note, of those that are released behind their first slot, and ahead of it, which none is; of early ones, which is their first slot.
func TestReady(t *testing.T) {
	x := both(t, 2, 20)
	x.ticks(3)
	x.add(0, w(1, 2), false, -1, 2)
	x.add(1, w(1, 2), true, -1, 3)
	x.runs(5, "; 0 1; 1; 0 1;;")
	rows(t, "Notes", x.g.Notes(), []api.Note{
		{ID: 0, Since: 23, Sub: api.Sub{Index: 1, Release: 23, Deadline: 25, Group: 25}, Ready: 23, At: 23, Core: 0},
		{ID: 1, Since: 23, Sub: api.Sub{Index: 1, Release: 23, Deadline: 25, Group: 25}, Ready: 23, At: 23, Core: 1},
		{ID: 1, Since: 23, Sub: api.Sub{Index: 2, Release: 25, Deadline: 27, Group: 27}, Ready: 23, At: 24, Core: 1},
		{ID: 0, Since: 23, Sub: api.Sub{Index: 2, Release: 25, Deadline: 27, Group: 27}, Ready: 25, At: 25, Core: 0},
		{ID: 1, Since: 23, Sub: api.Sub{Index: 3, Release: 27, Deadline: 29, Group: 29}, Ready: 23, At: 25, Core: 1},
	})
}

// P19.3: who runs, of more that are ready than there are cores, of as many, of fewer, of none.
func TestWhoRuns(t *testing.T) {
	x := both(t, 2, 0)
	x.ran()
	x.put(9, w(1, 1), false, -1, api.OK)
	x.ran()
	x.arrive(9, 1, api.OK)
	x.ran(run(9, 0, 1))
	x.ran()

	// The lesser deadline goes first; then the one whose window overlaps; then the one whose group ends later; then the lesser number.
	x = both(t, 1, 0)
	x.add(0, w(1, 3), false, -1, 1)  // 0 to 3, bit 0
	x.add(1, w(2, 5), false, -1, 1)  // 0 to 3, bit 1, light
	x.add(2, w(1, 2), false, -1, 1)  // 0 to 2, bit 0
	x.add(3, w(3, 5), false, -1, 1)  // 0 to 2, bit 1, group 3
	x.add(4, w(8, 11), false, -1, 1) // 0 to 2, bit 1, group 4
	x.add(5, w(1, 1), false, -1, 1)  // 0 to 1
	x.add(6, w(8, 11), false, -1, 1)
	x.runs(8, "; 5; 4; 6; 3; 2; 1; 0;")

	// All of 64 ready at once, on each number of cores.
	for _, m := range []int{1, 2, 3, 7, 63, 64, 65, 1024} {
		x := both(t, m, 1)
		for id := range many {
			x.add(id, small()[id%len(small())], id%3 == 0, -1, 3)
		}
		same(t, "how many run", len(x.tick()), min(m, many))
		for range 200 {
			x.tick()
		}
		x.noted()
	}
}

// P19.3: who is on which core: those that have a pin on it, others where they last ran, or on the least that is free, in the order of who goes first; told by core.
func TestCores(t *testing.T) {
	x := both(t, 3, 0)
	x.add(0, w(1, 2), false, -1, 4)
	x.add(1, w(1, 2), false, 0, 4)
	x.add(2, w(2, 3), false, -1, 4) // bit 1: it goes first
	x.ran(run(1, 0, 1), run(2, 1, 1), run(0, 2, 1))
	x.ran(run(2, 1, 2))
	x.ran(run(1, 0, 2), run(0, 2, 2))
	x.add(3, w(1, 1), false, 1, 2)
	// 2 has to go, as 3 has its pin on the core that it last ran on.
	x.ran(run(2, 0, 3), run(3, 1, 1))
	x.ran(run(1, 0, 3), run(3, 1, 2), run(0, 2, 3))
	// 2 was on core 0 at last, which is free now.
	x.ran(run(2, 0, 4))
	x.ran(run(1, 0, 4), run(0, 2, 4))
	same(t, "core at last", x.stand(2).Last, 0)
	same(t, "core at last", x.stand(3).Last, 1)
	x.noted()

	// Each core is some task's pin, in turn.
	for _, m := range []int{2, 5, 64, 1024} {
		x := both(t, m, 0)
		for id := range min(m, many) {
			x.add(id, w(1, 2), false, m-1-id, 2)
		}
		for range 4 {
			x.tick()
		}
		for id := range min(m, many) {
			same(t, "core at last", x.stand(id).Last, m-1-id)
		}
		x.noted()
	}
}

// P19.4: events are told once, with the slot at which they settled, and none is forgotten.
func TestEvents(t *testing.T) {
	x := both(t, 1, 100)
	x.settled()
	var want []api.Event
	for n := range int64(3000) {
		id := int(n*7) % many
		x.put(id, w(1, 3), false, -1, api.OK)
		x.leave(id, api.OK)
		want = append(want, left(100+n/2, id))
		if n%2 == 1 {
			x.tick()
		}
	}
	x.settled(want...)
	x.tick()
	x.settled()
	x.put(3, w(1, 3), false, -1, api.OK)
	x.leave(4, api.ErrNone)
	x.arrive(3, 1, api.OK)
	x.settled()
	x.reweight(3, w(1, 4), api.OK)
	x.settled()
	x.runs(3, "; 3;;")
	x.settled(renewed(1604, 3))
}

// P19.4: notes of none, of a few, of more than 4096 runs.
func TestNotes(t *testing.T) {
	x := both(t, 3, 0)
	x.noted()
	x.ran()
	rows(t, "Notes of none", x.g.Notes(), nil)
	for id := range 4 {
		x.add(id, w(3, 4), id == 2, -1, 1)
	}
	for n := range 2200 {
		for id := range 4 {
			if x.stand(id).Waits < 2 {
				x.arrive(id, 3, api.OK)
			}
		}
		x.tick()
		if n < 10 || n > 1350 && n < 1380 || n%100 == 0 {
			x.noted()
		}
	}
	l := x.g.Notes()
	same(t, "how many notes", len(l), kept)
	for i, n := range l[1:] {
		if n.At < l[i].At || n.At == l[i].At && n.Core <= l[i].Core {
			t.Fatalf("%v behind %v", n, l[i])
		}
	}
	x.noted()

	// Just 4095, 4096, 4097 of one core.
	x = both(t, 1, 50)
	x.put(0, w(1, 1), false, -1, api.OK)
	for n := 1; n < 2*kept+9; n++ {
		x.arrive(0, 1, api.OK)
		x.tick()
		if d := n % kept; d < 2 || d > kept-2 {
			x.noted()
			same(t, "how many notes", len(x.g.Notes()), min(n, kept))
		}
	}
	x.noted()
}

// Rule R5, and the language's rule on what is kept: an engine that goes on for long keeps no more than one that began.
func TestKeepsLittle(t *testing.T) {
	g := New(2, 0)
	size := func() uint64 {
		var s runtime.MemStats
		runtime.GC()
		runtime.ReadMemStats(&s)
		return s.HeapAlloc
	}
	work := func(slots int) {
		for n := range slots {
			id := n % many
			g.Put(id, w(1, 2), n%2 == 0, -1)
			g.Arrive(id, 3)
			g.Reweight((id+9)%many, w(1, 3))
			g.Leave((id + 20) % many)
			g.Tick()
			g.Events()
		}
	}
	work(10000)
	before := size()
	work(200000)
	if after := size(); after > before+200000 {
		t.Errorf("%d bytes more are kept", after-before)
	}
	runtime.KeepAlive(g)
}

// What a nil engine tells.
func TestNil(t *testing.T) {
	tellsNothing(t, nil)
}

// P1: a zero engine has no cores: it is as a nil one.
func TestZero(t *testing.T) {
	tellsNothing(t, &Engine{})
}

func tellsNothing(t *testing.T, g *Engine) {
	t.Helper()
	for range 2 {
		for _, id := range append(noIDs(), 0, 1, 63) {
			for _, w := range []api.Weight{w(1, 2), {}, w(2, 1)} {
				for _, pin := range []int{-2, -1, 0, 1} {
					same(t, "Put", g.Put(id, w, false, pin), api.ErrArg)
					same(t, "Put", g.Put(id, w, true, pin), api.ErrArg)
				}
				same(t, "Reweight", g.Reweight(id, w), api.ErrArg)
			}
			for _, n := range append(noNumbers(), 1, many) {
				same(t, "Arrive", g.Arrive(id, n), api.ErrArg)
			}
			same(t, "Leave", g.Leave(id), api.ErrArg)
			same(t, "Stand", g.Stand(id), idle)
		}
		slot, e := g.Tick()
		same(t, "Tick", e, api.ErrArg)
		same(t, "At", slot.At, int64(0))
		same(t, "runs", len(slot.Runs), 0)
		same(t, "Now", g.Now(), int64(0))
		same(t, "Events", len(g.Events()), 0)
		same(t, "Notes", len(g.Notes()), 0)
	}
}

// R3: what was told is the caller's own: it stays as it was told, and what is done with it changes no answer.
func TestMemory(t *testing.T) {
	x := both(t, 2, 0)
	for id := range 3 {
		x.add(id, w(2, 3), false, -1, 9)
	}
	first, _ := x.g.Tick()
	x.p.tick()
	same(t, "runs", len(first.Runs), 2)
	keep := slices.Clone(first.Runs)
	notes := x.g.Notes()
	again := x.g.Notes()
	for i := range notes {
		notes[i].ID, notes[i].At = 77, 77
	}
	rows(t, "Notes, told twice", again, x.p.notes)
	x.noted()
	notes = append(notes, api.Note{ID: 78})
	x.tick()
	rows(t, "the first slot, behind the second", first.Runs, keep)
	same(t, "what was put behind the notes", notes[len(notes)-1].ID, 78)
	for i := range first.Runs {
		first.Runs[i] = api.Run{ID: 77, Core: 77, Index: 77}
	}
	first.Runs = append(first.Runs, api.Run{ID: 78})
	x.tick()
	x.noted()

	x.put(5, w(1, 2), false, -1, api.OK)
	x.put(6, w(1, 2), false, -1, api.OK)
	x.leave(5, api.OK)
	x.leave(6, api.OK)
	x.p.events = nil
	events := x.g.Events()
	rows(t, "Events", events, []api.Event{left(3, 5), left(3, 6)})
	x.put(7, w(1, 2), false, -1, api.OK)
	x.leave(7, api.OK)
	rows(t, "Events, behind another one", events, []api.Event{left(3, 5), left(3, 6)})
	events[0].ID = 77
	events = append(events[:1], api.Event{ID: 78})
	x.settled(left(3, 7))
	same(t, "what was put behind the events", events[1].ID, 78)

	s := x.g.Stand(0)
	s.Weight.E, s.Waits = 77, 77
	x.alike("a changed Stand")
}

// R4: engines know nothing of one another, and the same calls have the same answers.
func TestManyEngines(t *testing.T) {
	var l []pair
	var draws []*rand.Rand
	for n := range 6 {
		l = append(l, both(t, 1+n/2, int64(n/2)))
		draws = append(draws, rand.New(rand.NewSource(int64(n/2))))
	}
	for range 2000 {
		for n, x := range l {
			x.chance(draws[n], 6, small())
		}
	}
	for n := range l {
		l[n].noted()
		if n%2 == 1 {
			rows(t, "Notes of the same calls", l[n].g.Notes(), l[n-1].g.Notes())
		}
	}
}

// chance does one call by chance, of ids below n, most of which are no errors.
func (x pair) chance(draw *rand.Rand, n int, weights []api.Weight) {
	x.t.Helper()
	id, weight := draw.Intn(n), weights[draw.Intn(len(weights))]
	var got, want api.Errno
	what := ""
	switch draw.Intn(12) {
	case 0, 1:
		pin := -1
		if draw.Intn(2) == 0 {
			pin = draw.Intn(min(x.p.m, n) + 1)
		}
		early := draw.Intn(2) == 0
		got, want, what = x.g.Put(id, weight, early, pin), x.p.put(id, weight, early, pin), fmt.Sprint("Put ", id, weight, early, pin)
	case 2, 3, 4:
		k := draw.Intn(6)
		if draw.Intn(20) == 0 {
			k = draw.Intn(many + 2)
		}
		got, want, what = x.g.Arrive(id, k), x.p.arrive(id, k), fmt.Sprint("Arrive ", id, " ", k)
	case 5:
		got, want, what = x.g.Leave(id), x.p.leave(id), fmt.Sprint("Leave ", id)
	case 6:
		got, want, what = x.g.Reweight(id, weight), x.p.reweight(id, weight), fmt.Sprint("Reweight ", id, weight)
	default:
		x.tick()
		return
	}
	x.err(what, got, want, want)
}

// P19.1 to P19.4: many calls by chance, whether the shares fit or not, against a plain engine.
func TestByChance(t *testing.T) {
	for row := range 60 {
		draw := rand.New(rand.NewSource(int64(row)))
		x := both(t, 1+row%5, int64(row%3)*1000)
		weights, n := small(), 1+row%12
		switch row % 10 {
		case 7:
			weights = some()
		case 8:
			x, n = both(t, 1024, end-3000), many
		case 9:
			x, n = both(t, 20, 0), many
		}
		for step := range 4000 {
			x.chance(draw, n, weights)
			if step%100 == 0 {
				rows(t, "Events", x.g.Events(), x.p.events)
				x.p.events = nil
			}
			if step%1000 == 0 {
				x.noted()
			}
		}
		x.told()
	}
}

// P19.1 to P19.4: all rows of five calls of nine, of two tasks on one core, against a plain engine.
func TestAllRows(t *testing.T) {
	acts := []func(x pair){
		func(x pair) { x.g.Tick(); x.p.tick() },
		func(x pair) { x.g.Put(0, w(1, 1), true, 0); x.p.put(0, w(1, 1), true, 0) },
		func(x pair) { x.g.Put(1, w(2, 3), false, 0); x.p.put(1, w(2, 3), false, 0) },
		func(x pair) { x.g.Arrive(0, 2); x.p.arrive(0, 2) },
		func(x pair) { x.g.Arrive(1, 3); x.p.arrive(1, 3) },
		func(x pair) { x.g.Leave(0); x.p.leave(0) },
		func(x pair) { x.g.Leave(1); x.p.leave(1) },
		func(x pair) { x.g.Reweight(0, w(1, 2)); x.p.reweight(0, w(1, 2)) },
		func(x pair) { x.g.Reweight(1, w(1, 3)); x.p.reweight(1, w(1, 3)) },
	}
	all := 1
	for range 5 {
		all *= len(acts)
	}
	for row := range all {
		x := both(t, 1, 0)
		x.g.Put(0, w(2, 5), row%2 == 0, -1)
		x.p.put(0, w(2, 5), row%2 == 0, -1)
		for rest, n := row, 0; n < 5; n++ {
			acts[rest%len(acts)](x)
			rest /= len(acts)
			for id := range 2 {
				same(t, "Stand", x.g.Stand(id), x.p.stand(id))
			}
		}
		for x.p.now < 8 {
			slot, _ := x.g.Tick()
			want, _ := x.p.tick()
			rows(t, "Tick", slot.Runs, want.Runs)
		}
		x.told()
	}
}

// share is what a task holds: the greater one of both of one that asked.
func (o *other) share() *big.Rat {
	now, next := big.NewRat(o.w.E, o.w.P), new(big.Rat)
	if o.stage == 3 {
		next.SetFrac64(o.next.E, o.next.P)
	}
	if next.Cmp(now) > 0 {
		return next
	}
	return now
}

// left is how much of the cores nobody holds, but for that task.
func (p *plain) left(but int) *big.Rat {
	left := big.NewRat(int64(p.m), 1)
	for id, o := range p.tasks {
		if id != but {
			left.Sub(left, o.share())
		}
	}
	return left
}

// fits is a weight that fits into so much, as often as not all of it; false, if there is none.
func fits(draw *rand.Rand, left *big.Rat, weights []api.Weight) (api.Weight, bool) {
	if draw.Intn(3) == 0 && left.Sign() > 0 && left.Cmp(big.NewRat(1, 1)) <= 0 && left.Denom().Int64() <= api.MaxP {
		return w(left.Num().Int64(), left.Denom().Int64()), true
	}
	weight := weights[draw.Intn(len(weights))]
	return weight, big.NewRat(weight.E, weight.P).Cmp(left) <= 0
}

// admitted does one call by chance, of ids below n, with which shares are not more than m.
func (x pair) admitted(draw *rand.Rand, n int, weights []api.Weight) {
	x.t.Helper()
	id := draw.Intn(n)
	switch o := x.p.tasks[id]; {
	case o == nil:
		if weight, ok := fits(draw, x.p.left(id), weights); ok {
			pin := -1
			if draw.Intn(3) == 0 {
				pin = draw.Intn(x.p.m)
			}
			early := draw.Intn(3) == 0
			x.g.Put(id, weight, early, pin)
			x.p.put(id, weight, early, pin)
			x.alike("Put")
		}
	case o.stage == 1 && draw.Intn(8) == 0:
		x.leave(id, api.OK)
	case o.stage == 1 && draw.Intn(8) == 0:
		if weight, ok := fits(draw, x.p.left(id), weights); ok {
			x.reweight(id, weight, api.OK)
		}
	default:
		k := 1 + draw.Intn(5)
		x.g.Arrive(id, k)
		x.p.arrive(id, k)
		x.alike("Arrive")
	}
}

// supply lets quanta arrive of each task that has few.
func (x pair) supply() {
	x.t.Helper()
	for id := range many {
		if o := x.p.tasks[id]; o != nil && o.stage == 1 && len(o.waits) < 2 {
			x.arrive(id, 3, api.OK)
		}
	}
}

// timely asks that none waits at now whose deadline is over.
func (x pair) timely() {
	x.t.Helper()
	for id, o := range x.p.tasks {
		if len(o.waits) > 0 && o.waits[0].Deadline <= x.p.now {
			x.t.Fatalf("at %d %v of %d waits still, of %v", x.p.now, o.waits[0], id, o.w)
		}
	}
}

// P19.5: with shares that are never more than m, each subtask runs from its Ready on and ahead of its Deadline, in order, none twice in a slot; over tasks that join, leave and ask by chance.
func TestMeeting(t *testing.T) {
	twelfths := []api.Weight{w(1, 12), w(1, 6), w(1, 4), w(1, 3), w(5, 12), w(1, 2), w(7, 12), w(2, 3), w(3, 4), w(5, 6), w(11, 12), w(1, 1)}
	full := 0
	heavy := []api.Weight{w(1, 2), w(2, 3), w(3, 4), w(4, 5), w(8, 11), w(6, 11), w(9, 10), w(19, 20), w(5, 7)}
	for row := range 90 {
		draw := rand.New(rand.NewSource(int64(row)))
		weights := [][]api.Weight{twelfths, heavy, small()}[row%3]
		m := 1 + row%7
		n := min(many, 2+m*(1+row%4))
		busy := row/3%3 > 0
		if row%30 == 29 {
			m, n = 30, many
		}
		x := both(t, m, int64(row))
		for range 1500 {
			for range 1 + draw.Intn(3) {
				x.admitted(draw, n, weights)
			}
			if busy {
				x.supply()
			}
			if left := x.p.left(-1); left.Sign() < 0 {
				t.Fatalf("row %d: the test lets in %v too much", row, left)
			} else if left.Sign() == 0 {
				full++
			}
			x.tick()
			x.timely()
			if x.p.now%200 == 0 {
				x.inOrder()
			}
		}
		x.inOrder()
		x.told()
	}
	if full < 10000 {
		t.Errorf("the cores were full in %d slots alone", full)
	}
}

// inOrder holds the notes against what P19.5 says of them.
func (x pair) inOrder() {
	x.t.Helper()
	type key struct {
		id    int
		since int64
	}
	type spot struct {
		at int64
		id int
	}
	type seat struct {
		at   int64
		core int
	}
	last := map[key]api.Note{}
	ids, cores := map[spot]int{}, map[seat]int{}
	for _, n := range x.g.Notes() {
		if n.At < n.Ready || n.At >= n.Sub.Deadline || n.At < n.Since {
			x.t.Fatalf("not in time: %v", n)
		}
		k := key{n.ID, n.Since}
		if before, ok := last[k]; ok && (n.Sub.Index != before.Sub.Index+1 || n.At <= before.At) {
			x.t.Fatalf("%v behind %v", n, before)
		}
		last[k] = n
		ids[spot{n.At, n.ID}]++
		cores[seat{n.At, n.Core}]++
		if ids[spot{n.At, n.ID}] > 1 || cores[seat{n.At, n.Core}] > 1 || n.Core < 0 || n.Core >= x.p.m {
			x.t.Fatalf("twice in a slot, or on a core, or on none: %v", n)
		}
	}
}

// P19.5: cores that are full of tasks of all kinds of weights, each of which has always one that waits, for some of their periods; early ones, too.
func TestFull(t *testing.T) {
	for _, c := range []struct {
		m int
		l []api.Weight
	}{
		{1, []api.Weight{w(1, 2), w(1, 3), w(1, 6)}},
		{2, []api.Weight{w(2, 3), w(2, 3), w(2, 3)}},
		{2, []api.Weight{w(1, 2), w(1, 2), w(1, 3), w(1, 3), w(1, 3)}},
		{2, []api.Weight{w(8, 11), w(8, 11), w(3, 11), w(3, 11)}},
		{3, []api.Weight{w(3, 4), w(3, 4), w(3, 4), w(3, 4)}},
		{6, []api.Weight{w(1, 2), w(1, 2), w(1, 2), w(3, 4), w(3, 4), w(7, 12), w(7, 12), w(5, 6), w(1, 1)}},
		{7, []api.Weight{w(7, 8), w(7, 8), w(7, 8), w(7, 8), w(7, 8), w(7, 8), w(7, 8), w(7, 8)}},
		// Of these some would be late, if groups were forgotten.
		{4, []api.Weight{w(18, 24), w(20, 24), w(7, 12), w(21, 24), w(23, 24)}},
		{4, []api.Weight{w(28, 30), w(16, 30), w(29, 30), w(22, 30), w(25, 30)}},
		{4, []api.Weight{w(21, 30), w(4, 5), w(24, 30), w(28, 30), w(23, 30)}},
		{5, []api.Weight{w(16, 30), w(8, 15), w(22, 30), w(20, 30), w(26, 30), w(25, 30), w(25, 30)}},
		{8, []api.Weight{w(9, 10), w(9, 10), w(9, 10), w(9, 10), w(9, 10), w(9, 10), w(9, 10), w(9, 10), w(4, 5)}},
	} {
		for early := range 3 {
			x := both(t, c.m, 3)
			sum := new(big.Rat)
			for id, weight := range c.l {
				x.put(id, weight, early == 1 || early == 2 && id%2 == 0, -1, api.OK)
				sum.Add(sum, big.NewRat(weight.E, weight.P))
			}
			same(t, "shares", sum.Cmp(big.NewRat(int64(c.m), 1)) <= 0, true)
			for range 400 {
				for id := range c.l {
					if x.stand(id).Waits < 3 {
						x.arrive(id, 5, api.OK)
					}
				}
				x.tick()
				x.timely()
			}
			x.inOrder()
			x.noted()
		}
	}
}
