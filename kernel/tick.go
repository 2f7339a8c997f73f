package kernel

import (
	"slices"

	"signalbox/api"
	"signalbox/cost"
	"signalbox/job"
	"signalbox/ready"
)

// step does the tick that comes, and those behind it, up to a tick, in which nothing changes.
func (k *Kernel) step(until int) {
	for _, e := range k.agenda.Take(k.now) {
		k.meet(e)
	}
	withheld := k.choose()
	span := k.quiet(until)
	top := k.top()
	if top == nil {
		k.now += span
		return
	}
	k.begin(top)
	span = min(span, top.Rest())
	if withheld {
		left, _ := top.Left()
		span = min(span, left)
		k.entries[top.place].Withheld += span
	}
	top.Burn(span)
	k.now += span
	if top.Over() {
		k.end(top)
	}
}

// quiet is how many ticks there are to the next event, or up to a tick.
func (k *Kernel) quiet(until int) int {
	if next, ok := k.agenda.Next(); ok {
		until = min(until, next)
	}
	return until - k.now
}

// meet does what an event asks for.
func (k *Kernel) meet(e api.Event) {
	switch e.Kind {
	case api.EventRelease:
		k.release(e.A)
	case api.EventRaise:
		delivered, _ := k.lines.Raise(e.A)
		k.deliver(e.A, delivered)
	case api.EventMask:
		k.lines.Mask(e.A)
	case api.EventUnmask:
		delivered, _ := k.lines.Unmask(e.A)
		k.deliver(e.A, delivered)
	case api.EventTimer:
		k.release(e.A)
		if e.C > 1 {
			e.At += e.B
			e.C--
			k.agenda.Put(e)
		}
	}
}

// deliver releases a line's task, if something is delivered.
func (k *Kernel) deliver(line int, delivered bool) {
	if delivered {
		k.release(k.owners[line])
	}
}

// release lets a task's next job wait, or loses it.
func (k *Kernel) release(task int) {
	j, e := k.ready.Release(task, k.now)
	if e != api.OK {
		k.record(j.Task, j.Number, api.Record{Kind: api.RecLost, Code: e})
		return
	}
	k.places[j] = len(k.entries)
	k.entries = append(k.entries, waiting(j))
	k.record(j.Task, j.Number, api.Record{Kind: api.RecRelease})
}

// waiting is the entry of a job that hasn't begun.
func waiting(j ready.Job) entry {
	return entry{Report: api.Report{
		Task: j.Task, Job: j.Number, Release: j.Release,
		Start: notYet, End: notYet, Base: notYet,
	}}
}

// choose makes the first one that waits the top, if it may displace the one that is it; else that one goes on. It tells whether the top withholds the first one.
func (k *Kernel) choose() (withheld bool) {
	top := k.top()
	_, priority, waits := k.ready.First()
	displaces := waits && priority > k.level(top)
	if displaces && (top == nil || !top.Withhold()) {
		k.start(top)
		return false
	}
	k.resume(top)
	return displaces
}

// top is the job that has begun last, of those that aren't over; nil if there is none.
func (k *Kernel) top() *begun {
	if k == nil || len(k.jobs) == 0 {
		return nil
	}
	return k.jobs[len(k.jobs)-1]
}

// level is what a priority must be above, to displace a top: no priority is above that of an open region, all are above that of no top.
func (k *Kernel) level(top *begun) int {
	switch {
	case top == nil:
		return -1
	case top.Open():
		return api.MaxLevel
	}
	return k.locks.Level(top.place, k.tasks[k.entries[top.place].Task].Threshold)
}

// start lets the first one that waits begin on top of another one, if there is one.
func (k *Kernel) start(under *begun) {
	if under != nil {
		under.covered = true
		k.entries[under.place].Displaced++
		k.tell(under.place, api.Record{Kind: api.RecDisplace})
	}
	j, _ := k.ready.Take()
	place := k.places[j]
	delete(k.places, j)
	t, e := k.tasks[j.Task], &k.entries[place]
	e.Start = k.now
	e.Base, _ = k.stack.Push(place, t.Frame)
	e.alone.misses, e.alone.cycles = cost.Alone(t.Program, k.machine, k.cache)
	k.jobs = append(k.jobs, &begun{Job: job.New(t), place: place})
	k.tell(place, api.Record{Kind: api.RecStart, Value: e.Base})
}

// resume lets a top go on, if another one was on top of it.
func (k *Kernel) resume(top *begun) {
	if top == nil || !top.covered {
		return
	}
	top.covered = false
	k.tell(top.place, api.Record{Kind: api.RecResume})
}

// begin begins the top's next operation, unless one is under way.
func (k *Kernel) begin(top *begun) {
	o, ok := top.Op()
	if !ok {
		return
	}
	hit := o.Kind == api.OpAccess && k.access(top, o.A)
	top.Begin(cost.Of(o, k.machine, hit)) // a frame that is overrun is told at the job's end
	if r, ok := k.call(o, top.place); ok {
		k.tell(top.place, r)
	}
}

// access uses a block, and asks whether the cache had it.
func (k *Kernel) access(top *begun, block int) bool {
	hit, _ := k.cache.Access(block)
	e := &k.entries[top.place]
	if hit {
		e.Hits++
	} else {
		e.Misses++
	}
	return hit
}

// end takes away a top that is over.
func (k *Kernel) end(top *begun) {
	k.locks.Free(top.place)
	k.stack.Pop(top.place)
	k.jobs = slices.Delete(k.jobs, len(k.jobs)-1, len(k.jobs))
	e := &k.entries[top.place]
	e.End, e.Fault = k.now, top.Fault()
	r := api.Record{Kind: api.RecDone}
	if e.Fault {
		r.Kind, r.Code = api.RecFault, api.ErrStack
	}
	k.tell(top.place, r)
}

// tell records what happens now to the job of an entry.
func (k *Kernel) tell(place int, r api.Record) {
	e := &k.entries[place]
	k.record(e.Task, e.Job, r)
}

// record records what happens now to a task's job.
func (k *Kernel) record(task, number int, r api.Record) {
	r.At, r.Task, r.Job = k.now, task, number
	k.trace = append(k.trace, r)
}
