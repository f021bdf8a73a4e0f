// Package calls holds the layers' calls against the signatures that the chapters list. It has tests alone.
package calls

import (
	"slices"
	"testing"

	"regatta/api"
	"regatta/audit"
	"regatta/calendar"
	"regatta/engine"
	"regatta/exact"
	"regatta/fluid"
	"regatta/gantt"
	"regatta/heap"
	"regatta/hold"
	"regatta/hyper"
	"regatta/machine"
	"regatta/nat"
	"regatta/place"
	"regatta/prio"
	"regatta/quota"
	"regatta/ratio"
	"regatta/rule"
	"regatta/seats"
	"regatta/slot"
	"regatta/stats"
	"regatta/stepper"
	"regatta/super"
	"regatta/task"
	"regatta/text"
	"regatta/window"
	"regatta/wire"
)

// A call of another shape than its chapter's does not compile here.

// exact
var (
	_ func(a, b int64) (int64, api.Errno) = exact.Add
	_ func(a, b int64) (int64, api.Errno) = exact.Sub
	_ func(a, b int64) (int64, api.Errno) = exact.Mul
	_ func(a, b int64) (int64, api.Errno) = exact.Floor
	_ func(a, b int64) (int64, api.Errno) = exact.Ceil
	_ func(a, b int64) (int64, api.Errno) = exact.Gcd
	_ func(l ...int64) (int64, api.Errno) = exact.Lcm
)

// nat
var (
	_ func(n uint64) []uint32                                        = nat.Of
	_ func(a []uint32) bool                                          = nat.Check
	_ func(a, b []uint32) int                                        = nat.Cmp
	_ func(a, b []uint32) []uint32                                   = nat.Add
	_ func(a, b []uint32) ([]uint32, api.Errno)                      = nat.Sub
	_ func(a, b []uint32) []uint32                                   = nat.Mul
	_ func(a []uint32, d uint32) (q []uint32, r uint32, e api.Errno) = nat.Div
	_ func(a []uint32) string                                        = nat.Text
	_ func(s string) ([]uint32, api.Errno)                           = nat.Parse
)

// ratio
var (
	_ func(w api.Weight) api.Ratio                = ratio.Of
	_ func(n uint64) api.Ratio                    = ratio.Whole
	_ func(a api.Ratio) bool                      = ratio.Check
	_ func(a, b api.Ratio) api.Ratio              = ratio.Add
	_ func(a, b api.Ratio) (api.Ratio, api.Errno) = ratio.Sub
	_ func(a, b api.Ratio) int                    = ratio.Cmp
	_ func(l ...api.Weight) api.Ratio             = ratio.Sum
	_ func(a api.Ratio) api.Ratio                 = ratio.Least
	_ func(a api.Ratio) string                    = ratio.Text
)

// window
var (
	_ func(w api.Weight) bool                                  = window.Check
	_ func(w api.Weight) bool                                  = window.Heavy
	_ func(w api.Weight, i int64) int64                        = window.Release
	_ func(w api.Weight, i int64) int64                        = window.Deadline
	_ func(w api.Weight, i int64) int                          = window.Bit
	_ func(w api.Weight, i int64) int64                        = window.Group
	_ func(w api.Weight, i, offset int64) (api.Sub, api.Errno) = window.Of
	_ func(w api.Weight, i int64) int64                        = window.Long
)

// stepper
var (
	_ func(w api.Weight, offset int64) *stepper.Stepper = stepper.New
	_ func(s *stepper.Stepper) api.Sub                  = (*stepper.Stepper).Next
	_ func(s *stepper.Stepper) api.Sub                  = (*stepper.Stepper).Peek
	_ func(s *stepper.Stepper, slots int64) bool        = (*stepper.Stepper).Shift
	_ func(s *stepper.Stepper) *stepper.Stepper         = (*stepper.Stepper).Copy
)

// prio
var (
	_ func(a, b api.Entry) bool              = prio.Less
	_ func(l []api.Entry) []api.Entry        = prio.Sort
	_ func(l []api.Entry, m int) []api.Entry = prio.Pick
	_ func(l []api.Entry, id int) int        = prio.Rank
)

// heap
var (
	_ func(less func(a, b string) bool) *heap.Heap[string]   = heap.New[string]
	_ func(h *heap.Heap[string], id int, x string) bool      = (*heap.Heap[string]).Push
	_ func(h *heap.Heap[string]) (id int, x string, ok bool) = (*heap.Heap[string]).Pop
	_ func(h *heap.Heap[string]) (id int, x string, ok bool) = (*heap.Heap[string]).Min
	_ func(h *heap.Heap[string], id int) (string, bool)      = (*heap.Heap[string]).Remove
	_ func(h *heap.Heap[string], id int) (string, bool)      = (*heap.Heap[string]).Get
	_ func(h *heap.Heap[string]) int                         = (*heap.Heap[string]).Len
	_ func(h *heap.Heap[string]) []int                       = (*heap.Heap[string]).IDs
)

// calendar
var (
	_ func() *calendar.Calendar                                  = calendar.New
	_ func(c *calendar.Calendar, e api.Event) api.Errno          = (*calendar.Calendar).Put
	_ func(c *calendar.Calendar, id, kind int) (api.Event, bool) = (*calendar.Calendar).Drop
	_ func(c *calendar.Calendar, at int64) []api.Event           = (*calendar.Calendar).Due
	_ func(c *calendar.Calendar) (api.Event, bool)               = (*calendar.Calendar).Next
	_ func(c *calendar.Calendar, id, kind int) (int64, bool)     = (*calendar.Calendar).At
	_ func(c *calendar.Calendar) int                             = (*calendar.Calendar).Len
)

// fluid
var (
	_ func(w api.Weight, slots, quanta int64) (int64, api.Errno) = fluid.Lag
	_ func(w api.Weight, slots int64) int64                      = fluid.Low
	_ func(w api.Weight, slots int64) int64                      = fluid.High
	_ func(w api.Weight, slots, quanta int64) bool               = fluid.Fair
	_ func(w api.Weight, l []bool) bool                          = fluid.Follows
	_ func(w api.Weight, slots int64) bool                       = fluid.Due
	_ func(l []bool) int64                                       = fluid.Runs
)

// task
var (
	_ func(w api.Weight, at int64, early bool) *task.Task = task.New
	_ func(t *task.Task, at int64, n int) api.Errno       = (*task.Task).Arrive
	_ func(t *task.Task) (api.Sub, bool)                  = (*task.Task).Head
	_ func(t *task.Task, at int64) (api.Sub, bool)        = (*task.Task).Ready
	_ func(t *task.Task) (int64, bool)                    = (*task.Task).When
	_ func(t *task.Task) (api.Sub, bool)                  = (*task.Task).Run
	_ func(t *task.Task) (api.Sub, bool)                  = (*task.Task).Last
	_ func(t *task.Task, at int64) int                    = (*task.Task).Cut
	_ func(t *task.Task) int                              = (*task.Task).Waits
	_ func(t *task.Task) int64                            = (*task.Task).Done
	_ func(t *task.Task) api.Weight                       = (*task.Task).Weight
)

// rule
var (
	_ func(w api.Weight, last api.Sub, some bool, at int64) int64 = rule.Time
	_ func(w api.Weight, last api.Sub, some bool, at int64) bool  = rule.Free
	_ func(w api.Weight, last api.Sub, some bool, at int64) int64 = rule.Wait
	_ func(w api.Weight) int64                                    = rule.Bound
	_ func(l []api.Event) (api.Event, bool)                       = rule.Latest
)

// hold
var (
	_ func(all api.Ratio) *hold.Ledger                             = hold.New
	_ func(l *hold.Ledger, id int, w api.Weight) api.Errno         = (*hold.Ledger).Join
	_ func(l *hold.Ledger, id int, w api.Weight) api.Errno         = (*hold.Ledger).Ask
	_ func(l *hold.Ledger, id int) api.Errno                       = (*hold.Ledger).Settle
	_ func(l *hold.Ledger, id int) api.Errno                       = (*hold.Ledger).Free
	_ func(l *hold.Ledger) api.Ratio                               = (*hold.Ledger).Held
	_ func(l *hold.Ledger) api.Ratio                               = (*hold.Ledger).Left
	_ func(l *hold.Ledger, id int) (now, next api.Weight, ok bool) = (*hold.Ledger).Of
	_ func(l *hold.Ledger, w, in api.Weight) bool                  = (*hold.Ledger).Fits
	_ func(l *hold.Ledger) int                                     = (*hold.Ledger).Len
)

// quota
var (
	_ func(all api.Ratio, l []api.Server) *quota.Tree             = quota.New
	_ func(t *quota.Tree, id, server int, w api.Weight) api.Errno = (*quota.Tree).Join
	_ func(t *quota.Tree, id int, w api.Weight) api.Errno         = (*quota.Tree).Ask
	_ func(t *quota.Tree, id int) api.Errno                       = (*quota.Tree).Settle
	_ func(t *quota.Tree, id int) api.Errno                       = (*quota.Tree).Free
	_ func(t *quota.Tree, server int) api.Ratio                   = (*quota.Tree).Held
	_ func(t *quota.Tree, id int) int                             = (*quota.Tree).Server
	_ func(t *quota.Tree, server int) []int                       = (*quota.Tree).Path
	_ func(l []api.Server) bool                                   = quota.Check
)

// super
var (
	_ func(l []api.Part) (api.Weight, api.Errno)     = super.Weight
	_ func(l []api.Part) api.Ratio                   = super.Use
	_ func(l []api.Part) bool                        = super.Check
	_ func(l []api.Part, at int64) *super.Super      = super.New
	_ func(s *super.Super, at int64) (api.Job, bool) = (*super.Super).Grant
	_ func(s *super.Super, at int64) []api.Job       = (*super.Super).Jobs
	_ func(s *super.Super, at int64) int64           = (*super.Super).Missed
	_ func(s *super.Super) int64                     = (*super.Super).Served
	_ func(s *super.Super) int64                     = (*super.Super).Idle
)

// place
var (
	_ func(l []api.Runner, m int) bool               = place.Check
	_ func(l []api.Runner, m int) ([]int, api.Errno) = place.Assign
	_ func(l []api.Runner, cores []int) int          = place.Moves
	_ func(l []api.Runner, m int) int                = place.Least
	_ func(l []api.Runner, cores []int, m int) bool  = place.Holds
)

// slot
var (
	_ func(s api.Slot, m int) bool      = slot.Check
	_ func(l []api.Slot, m int) bool    = slot.Row
	_ func(l []api.Slot, id int) int64  = slot.Quanta
	_ func(l []api.Slot, id int) int    = slot.Moves
	_ func(l []api.Slot, m int) int64   = slot.Empty
	_ func(l []api.Slot) string         = slot.Bytes
	_ func(s string) ([]api.Slot, bool) = slot.Read
)

// seats
var (
	_ func(n int) *seats.Seats               = seats.New
	_ func(s *seats.Seats) (int, api.Errno)  = (*seats.Seats).Take
	_ func(s *seats.Seats, id int) api.Errno = (*seats.Seats).Give
	_ func(s *seats.Seats, id int) bool      = (*seats.Seats).Taken
	_ func(s *seats.Seats) int               = (*seats.Seats).Left
	_ func(s *seats.Seats) []int             = (*seats.Seats).IDs
)

// wire
var (
	_ func(c api.Cmd) bool                       = wire.Check
	_ func(l []api.Cmd) string                   = wire.Bytes
	_ func(s string) ([]api.Cmd, int, api.Errno) = wire.Read
	_ func(c api.Cmd) int                        = wire.Size
	_ func(a, b api.Cmd) bool                    = wire.Same
)

// engine
var (
	_ func(m int, at int64) *engine.Engine                                        = engine.New
	_ func(g *engine.Engine, id int, w api.Weight, early bool, pin int) api.Errno = (*engine.Engine).Put
	_ func(g *engine.Engine, id, n int) api.Errno                                 = (*engine.Engine).Arrive
	_ func(g *engine.Engine, id int) api.Errno                                    = (*engine.Engine).Leave
	_ func(g *engine.Engine, id int, w api.Weight) api.Errno                      = (*engine.Engine).Reweight
	_ func(g *engine.Engine) (api.Slot, api.Errno)                                = (*engine.Engine).Tick
	_ func(g *engine.Engine) int64                                                = (*engine.Engine).Now
	_ func(g *engine.Engine, id int) api.Stand                                    = (*engine.Engine).Stand
	_ func(g *engine.Engine) []api.Event                                          = (*engine.Engine).Events
	_ func(g *engine.Engine) []api.Note                                           = (*engine.Engine).Notes
)

// audit
var (
	_ func(n api.Note) bool                                          = audit.Timely
	_ func(l []api.Note) int                                         = audit.Late
	_ func(l []api.Note) int                                         = audit.Order
	_ func(l []api.Note, m int) int                                  = audit.Slots
	_ func(l []api.Note, w func(id int, since int64) api.Weight) int = audit.Windows
	_ func(l []api.Note, m int) (int, int)                           = audit.Check
	_ func(l []api.Note, id int, since, from, to int64) int64        = audit.Ran
)

// stats
var (
	_ func() *stats.Counter[string]                           = stats.New[string]
	_ func(c *stats.Counter[string], k string, n int64) int64 = (*stats.Counter[string]).Add
	_ func(c *stats.Counter[string], k string) int64          = (*stats.Counter[string]).Get
	_ func(c *stats.Counter[string]) []string                 = (*stats.Counter[string]).Keys
	_ func(c *stats.Counter[string], n int) []string          = (*stats.Counter[string]).Top
	_ func(c *stats.Counter[string]) int64                    = (*stats.Counter[string]).Sum
	_ func(l []api.Note) *stats.Counter[int]                  = stats.Runs
	_ func(l []api.Note) *stats.Counter[int]                  = stats.Cores
	_ func(l []api.Note) *stats.Counter[int]                  = stats.Moves
)

// machine
var (
	_ func(c api.Config) *machine.Machine                              = machine.New
	_ func(m *machine.Machine, c api.Cmd) api.Reply                    = (*machine.Machine).Do
	_ func(m *machine.Machine, s string) ([]api.Reply, int, api.Errno) = (*machine.Machine).Run
	_ func(m *machine.Machine) int64                                   = (*machine.Machine).Now
	_ func(m *machine.Machine, server int) api.Ratio                   = (*machine.Machine).Held
	_ func(m *machine.Machine, id int) api.Stand                       = (*machine.Machine).Stand
	_ func(m *machine.Machine) []api.Note                              = (*machine.Machine).Notes
	_ func(m *machine.Machine) []int                                   = (*machine.Machine).Tasks
	_ func(m *machine.Machine, id int) bool                            = (*machine.Machine).Super
)

// hyper
var (
	_ func(l []api.Weight, m int) bool                             = hyper.Check
	_ func(l []api.Weight) (int64, api.Errno)                      = hyper.Period
	_ func(l []api.Weight, m int, n int64) ([]api.Slot, api.Errno) = hyper.Slots
	_ func(l []api.Slot, id int) []bool                            = hyper.Rows
	_ func(l []api.Weight, m int) bool                             = hyper.Feasible
	_ func(l []api.Weight, m int) (int64, api.Errno)               = hyper.Idle
)

// text
var (
	_ func(c api.Cmd) bool              = text.Check
	_ func(c api.Cmd) string            = text.Line
	_ func(l []api.Cmd) string          = text.Text
	_ func(s string) ([]api.Cmd, int)   = text.Parse
	_ func(s string) (api.Weight, bool) = text.Weight
)

// gantt
var (
	_ func(l []api.Slot, m int) bool      = gantt.Check
	_ func(l []api.Slot, m int) string    = gantt.Draw
	_ func(s string) ([][]int, bool)      = gantt.Read
	_ func(l []api.Slot, core int) string = gantt.Core
	_ func(id int) byte                   = gantt.Letter
	_ func(c byte) int                    = gantt.ID
)

func TestErrors(t *testing.T) {
	for _, x := range []struct {
		e    api.Errno
		n    int
		text string
	}{
		{api.OK, 0, "regatta: error 0"},
		{api.ErrArg, 1, "regatta: error 1"},
		{api.ErrForm, 10, "regatta: error 10"},
		{api.ErrNone, 12, "regatta: error 12"},
		{api.ErrState, 13, "regatta: error 13"},
		{api.ErrThere, 14, "regatta: error 14"},
		{api.ErrFull, 15, "regatta: error 15"},
		{api.ErrOver, 16, "regatta: error 16"},
		{api.ErrZero, 17, "regatta: error 17"},
		{api.ErrQuota, 18, "regatta: error 18"},
		{api.ErrPin, 19, "regatta: error 19"},
		{api.ErrEnd, 20, "regatta: error 20"},
	} {
		if int(x.e) != x.n || x.e.Error() != x.text {
			t.Errorf("error %d, %q: want %d, %q", int(x.e), x.e.Error(), x.n, x.text)
		}
	}
}

func TestConstants(t *testing.T) {
	got := []int{
		api.MaxP, api.Horizon, api.MaxBacklog, api.MaxCores, api.MaxTasks, api.MaxServers, api.MaxParts,
		api.Idle, api.Live, api.Leaving, api.Reweights,
		api.EventReady, api.EventRule, api.EventLeft, api.EventReweight,
		api.CmdJoin, api.CmdLeave, api.CmdReweight, api.CmdArrive, api.CmdTick, api.CmdSuper, api.CmdQuery,
	}
	want := []int{
		1 << 20, 1 << 40, 64, 1024, 64, 16, 8,
		0, 1, 2, 3,
		0, 1, 2, 3,
		1, 2, 3, 4, 5, 6, 7,
	}
	if !slices.Equal(got, want) {
		t.Errorf("constants: %v, want %v", got, want)
	}
}
