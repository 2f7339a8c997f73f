package kernel

import (
	"slices"

	"signalbox/api"
	"signalbox/frames"
)

// worker is a job of the model.
type worker struct {
	api.Report
	task           api.Task
	at, rest       int // the operation's place, and how much of it is left
	regions        int
	pushed         int
	left           int // what may be withheld
	armed          bool
	locks          []int
	last           int // the tick in which it went on last
	misses, cycles int // alone
}

// model is a kernel as plain as can be: it goes through each tick, and all that it has stands in rows.
type model struct {
	c       api.Config
	now     int
	events  []api.Event
	numbers []int // of each task, how many were released so far
	waiting []*worker
	stack   []*worker
	workers []*worker
	trace   []api.Record
	peak    int
	sets    [][]int
	boxes   [][]int
	groups  []int
	counts  []int
	masked  []bool
	latched []bool
}

func newModel(c api.Config) *model {
	return &model{
		c:       c,
		numbers: make([]int, len(c.Tasks)),
		sets:    make([][]int, c.Machine.Sets),
		boxes:   make([][]int, len(c.Mailboxes)),
		groups:  make([]int, c.Groups),
		counts:  make([]int, len(c.Counts)),
		masked:  make([]bool, len(c.Lines)),
		latched: make([]bool, len(c.Lines)),
	}
}

func (m *model) event(e api.Event) api.Errno {
	if e.Kind < 1 || e.Kind > 5 {
		return api.ErrArg
	}
	if e.At < m.now || e.At > 1<<24 {
		return api.ErrRange
	}
	if e.Kind == api.EventTimer && (e.B < 1 || e.B > 1<<20 || e.C < 1 || e.C > 256) {
		return api.ErrRange
	}
	things := len(m.c.Lines)
	if e.Kind == api.EventRelease || e.Kind == api.EventTimer {
		things = len(m.c.Tasks)
	}
	if e.A < 0 || e.A >= things {
		return api.ErrNone
	}
	if len(m.events) == 256 {
		return api.ErrFull
	}
	m.events = append(m.events, e)
	return api.OK
}

func (m *model) run(until int) api.Errno {
	if until < m.now || until > 1<<24 {
		return api.ErrRange
	}
	for m.now < until {
		m.meetAll()
		m.choose()
		m.cycle()
		m.now++
	}
	return api.OK
}

func (m *model) meetAll() {
	var due, later []api.Event
	for _, e := range m.events {
		if e.At == m.now {
			due = append(due, e)
		} else {
			later = append(later, e)
		}
	}
	m.events = later
	for _, e := range due {
		switch e.Kind {
		case api.EventRelease:
			m.release(e.A)
		case api.EventTimer:
			m.release(e.A)
			if e.C > 1 {
				m.events = append(m.events, api.Event{At: m.now + e.B, Kind: e.Kind, A: e.A, B: e.B, C: e.C - 1})
			}
		case api.EventRaise:
			if m.masked[e.A] {
				m.latched[e.A] = true
			} else {
				m.release(m.c.Lines[e.A])
			}
		case api.EventMask:
			m.masked[e.A] = true
		case api.EventUnmask:
			m.masked[e.A] = false
			if m.latched[e.A] {
				m.latched[e.A] = false
				m.release(m.c.Lines[e.A])
			}
		}
	}
}

func (m *model) release(task int) {
	number := m.numbers[task]
	m.numbers[task]++
	count := 0
	for _, w := range m.waiting {
		if w.Task == task {
			count++
		}
	}
	if count == 4 {
		m.trace = append(m.trace, api.Record{At: m.now, Kind: api.RecLost, Task: task, Job: number, Code: api.ErrFull})
		return
	}
	w := &worker{task: m.c.Tasks[task], left: m.c.Tasks[task].Float}
	w.Report = api.Report{Task: task, Job: number, Release: m.now, Start: -1, End: -1, Base: -1}
	m.waiting = append(m.waiting, w)
	m.workers = append(m.workers, w)
	m.record(w, api.Record{Kind: api.RecRelease})
}

func (m *model) record(w *worker, r api.Record) {
	r.Task, r.Job = w.Task, w.Job
	if r.At == 0 {
		r.At = m.now
	}
	m.trace = append(m.trace, r)
}

func (m *model) top() *worker {
	if len(m.stack) == 0 {
		return nil
	}
	return m.stack[len(m.stack)-1]
}

func (m *model) level(w *worker) int {
	if w.regions > 0 {
		return 64
	}
	level := w.task.Threshold
	for _, i := range w.locks {
		level = max(level, m.c.Ceilings[i])
	}
	return level
}

// first is the place, among those that wait, of the one that is to begin first; -1 if none waits.
func (m *model) first() int {
	first := -1
	for i, w := range m.waiting {
		if first < 0 || w.task.Priority > m.waiting[first].task.Priority {
			first = i
		}
	}
	return first
}

func (m *model) choose() {
	first, top := m.first(), m.top()
	if first >= 0 && top == nil {
		m.begin(first)
		return
	}
	if first >= 0 && m.waiting[first].task.Priority > m.level(top) {
		if top.left == 0 {
			top.Displaced++
			m.record(top, api.Record{Kind: api.RecDisplace})
			m.begin(first)
			return
		}
		top.armed = true
		top.Withheld++
	}
	if top != nil && top.last != m.now-1 {
		m.record(top, api.Record{Kind: api.RecResume})
	}
}

func (m *model) begin(first int) {
	w := m.waiting[first]
	m.waiting = slices.Delete(m.waiting, first, first+1)
	w.Start, w.Base = m.now, m.depth()
	m.stack = append(m.stack, w)
	m.peak = max(m.peak, m.depth())
	sets := make([][]int, len(m.sets))
	for i := range sets {
		sets[i] = slices.Clone(m.sets[i])
	}
	for _, o := range w.task.Program {
		switch {
		case o.Kind == api.OpCompute:
			w.cycles += o.A
		case o.Kind != api.OpAccess:
			w.cycles++
		case m.access(sets, o.A):
			w.cycles += m.c.Machine.Hit
		default:
			w.cycles += m.c.Machine.Miss
			w.misses++
		}
	}
	m.record(w, api.Record{Kind: api.RecStart, Value: w.Base})
}

func (m *model) depth() int {
	depth := 0
	for _, w := range m.stack {
		depth += w.task.Frame
	}
	return depth
}

// access uses a block of some sets: whether it was there.
func (m *model) access(sets [][]int, block int) bool {
	i := block % len(sets)
	at := slices.Index(sets[i], block)
	if at >= 0 {
		sets[i] = slices.Delete(sets[i], at, at+1)
	}
	sets[i] = append([]int{block}, sets[i]...)
	if len(sets[i]) > m.c.Machine.Ways {
		sets[i] = sets[i][:m.c.Machine.Ways]
	}
	return at >= 0
}

func (m *model) cycle() {
	w := m.top()
	if w == nil {
		return
	}
	if w.rest == 0 {
		w.rest = 1
		m.do(w, w.task.Program[w.at])
	}
	w.last = m.now
	w.rest--
	if w.armed && w.left > 0 {
		w.left--
	}
	if w.rest == 0 {
		w.at++
	}
	if w.rest == 0 && (w.Fault || w.at == len(w.task.Program)) {
		w.End = m.now + 1
		m.stack = m.stack[:len(m.stack)-1]
		w.locks = nil
		if w.Fault {
			m.record(w, api.Record{At: w.End, Kind: api.RecFault, Code: api.ErrStack})
		} else {
			m.record(w, api.Record{At: w.End, Kind: api.RecDone})
		}
	}
}

// do begins an operation.
func (m *model) do(w *worker, o api.Op) {
	switch o.Kind {
	case api.OpCompute:
		w.rest = o.A
	case api.OpAccess:
		if m.access(m.sets, o.A) {
			w.Hits++
			w.rest = m.c.Machine.Hit
		} else {
			w.Misses++
			w.rest = m.c.Machine.Miss
		}
	case api.OpEnter:
		w.regions++
	case api.OpExit:
		w.regions--
	case api.OpPush:
		w.pushed += o.A
		w.Fault = w.pushed > w.task.Frame
	case api.OpPop:
		w.pushed -= o.A
	default:
		value, code := m.call(w, o)
		m.record(w, api.Record{Kind: api.RecCall, Op: o.Kind, Code: code, Value: value})
	}
}

// call does an operation of an object: its value, and its code.
func (m *model) call(w *worker, o api.Op) (int, api.Errno) {
	switch o.Kind {
	case api.OpLock: // nobody ever finds one held, as holding it keeps those away who lock it
		w.locks = append(w.locks, o.A)
	case api.OpUnlock:
		w.locks = w.locks[:len(w.locks)-1]
	case api.OpSend:
		if len(m.boxes[o.A]) == m.c.Mailboxes[o.A] {
			return 0, api.ErrFull
		}
		m.boxes[o.A] = append(m.boxes[o.A], o.B)
	case api.OpRecv:
		if len(m.boxes[o.A]) == 0 {
			return 0, api.ErrEmpty
		}
		came := m.boxes[o.A][0]
		m.boxes[o.A] = m.boxes[o.A][1:]
		return came, api.OK
	case api.OpSet:
		was := m.groups[o.A]
		m.groups[o.A] |= o.B
		return was, api.OK
	case api.OpClear:
		was := m.groups[o.A]
		m.groups[o.A] &= 255 - o.B
		return was, api.OK
	case api.OpTest:
		if m.groups[o.A]&o.B == o.B {
			return 1, api.OK
		}
	case api.OpGive:
		if m.counts[o.A] == m.c.Counts[o.A] {
			return m.counts[o.A], api.ErrFull
		}
		m.counts[o.A]++
		return m.counts[o.A], api.OK
	case api.OpTake:
		if m.counts[o.A] == 0 {
			return 0, api.ErrEmpty
		}
		m.counts[o.A]--
		return m.counts[o.A], api.OK
	}
	return 0, api.OK
}

func (m *model) reports() []api.Report {
	var l []api.Report
	for _, w := range m.workers {
		l = append(l, w.Report)
	}
	return l
}

func (m *model) frames() []frames.Frame {
	var l []frames.Frame
	for _, w := range m.stack {
		l = append(l, frames.Frame{Who: slices.Index(m.workers, w), Base: w.Base, Size: w.task.Frame})
	}
	return l
}

func (m *model) alone(report int) (int, int, api.Errno) {
	if report < 0 || report >= len(m.workers) {
		return 0, 0, api.ErrNone
	}
	w := m.workers[report]
	if w.Start < 0 {
		return 0, 0, api.ErrEmpty
	}
	return w.misses, w.cycles, api.OK
}
