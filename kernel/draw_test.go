package kernel

import (
	"signalbox/api"
)

// drawer draws numbers, always the same ones of a seed.
type drawer struct{ seed uint64 }

// upTo is a number from 0 up to n.
func (d *drawer) upTo(n int) int {
	d.seed = d.seed*6364136223846793005 + 1442695040888963407
	return int(d.seed>>33) % (n + 1)
}

func (d *drawer) pick(l ...int) int { return l[d.upTo(len(l)-1)] }

func (d *drawer) rooms() []int {
	l := make([]int, d.upTo(3))
	for i := range l {
		l[i] = 1 + d.upTo(3)
	}
	return l
}

// config is a configuration that may be.
func (d *drawer) config() api.Config {
	hit := 1 + d.upTo(3)
	c := api.Config{
		Machine:   api.Machine{Sets: 1 + d.upTo(3), Ways: 1 + d.upTo(2), Hit: hit, Miss: hit + d.upTo(6)},
		Mailboxes: d.rooms(),
		Groups:    d.upTo(3),
		Counts:    d.rooms(),
	}
	for range d.upTo(4) {
		c.Ceilings = append(c.Ceilings, d.upTo(30))
	}
	taken := map[int]bool{}
	for range 1 + d.upTo(6) {
		p := d.upTo(24)
		if taken[p] {
			continue
		}
		taken[p] = true
		c.Tasks = append(c.Tasks, d.task(c, p))
	}
	for range d.upTo(4) {
		c.Lines = append(c.Lines, d.upTo(len(c.Tasks)-1))
	}
	return c
}

func (d *drawer) task(c api.Config, priority int) api.Task {
	t := api.Task{
		Priority: priority, Threshold: min(priority+d.pick(0, 0, 1, 5, 39), 63),
		Period: 50, Deadline: 1 + d.upTo(49), Frame: d.upTo(12), Float: d.pick(0, 0, 1, 2, 7, 1<<20),
	}
	t.Program = d.program(c, priority)
	return t
}

// program is one of a few operations, in which regions and locks nest, and are closed at the end. It may push more than there is room for.
func (d *drawer) program(c api.Config, priority int) []api.Op {
	var l []api.Op
	var locked []int
	regions, pushed := 0, 0
	for range 1 + d.upTo(12) {
		o := d.op(c)
		switch o.Kind {
		case api.OpEnter:
			regions++
		case api.OpExit:
			if regions == 0 {
				continue
			}
			regions--
		case api.OpPush:
			pushed += o.A
		case api.OpPop:
			if o.A > pushed {
				continue
			}
			pushed -= o.A
		case api.OpLock:
			if c.Ceilings[o.A] < priority || contains(locked, o.A) {
				continue
			}
			locked = append(locked, o.A)
		case api.OpUnlock:
			if len(locked) == 0 {
				continue
			}
			o.A = locked[len(locked)-1]
			locked = locked[:len(locked)-1]
		}
		l = append(l, o)
	}
	for range regions {
		l = append(l, api.Op{Kind: api.OpExit})
	}
	for len(locked) > 0 {
		l = append(l, api.Op{Kind: api.OpUnlock, A: locked[len(locked)-1]})
		locked = locked[:len(locked)-1]
	}
	if len(l) == 0 {
		l = []api.Op{{Kind: api.OpCompute, A: 1 + d.upTo(9)}}
	}
	return l
}

func contains(l []int, n int) bool {
	for _, x := range l {
		if x == n {
			return true
		}
	}
	return false
}

// op is an operation of the configuration's objects: a compute, where there are none of the kind.
func (d *drawer) op(c api.Config) api.Op {
	compute := api.Op{Kind: api.OpCompute, A: 1 + d.upTo(9)}
	kind := 1 + d.upTo(14)
	things := 0
	switch kind {
	case api.OpCompute:
		return compute
	case api.OpAccess:
		return api.Op{Kind: kind, A: d.upTo(9)}
	case api.OpEnter, api.OpExit:
		return api.Op{Kind: kind}
	case api.OpPush, api.OpPop:
		return api.Op{Kind: kind, A: 1 + d.upTo(4)}
	case api.OpLock, api.OpUnlock:
		things = len(c.Ceilings)
	case api.OpSend, api.OpRecv:
		things = len(c.Mailboxes)
	case api.OpSet, api.OpClear, api.OpTest:
		things = c.Groups
	case api.OpGive, api.OpTake:
		things = len(c.Counts)
	}
	if things == 0 {
		return compute
	}
	o := api.Op{Kind: kind, A: d.upTo(things - 1)}
	switch kind {
	case api.OpSend:
		o.B = d.upTo(255)
	case api.OpSet, api.OpClear, api.OpTest:
		o.B = d.upTo(7)
	}
	return o
}

// event is one from a tick on, now and then of a kind, a tick or a number that may not be.
func (d *drawer) event(c api.Config, now int) api.Event {
	e := api.Event{At: now + d.upTo(30), Kind: d.pick(1, 1, 1, 2, 2, 3, 4, 5), A: d.upTo(6)}
	if d.upTo(2) > 0 { // a number of something that there is
		e.A = d.upTo(len(c.Tasks) - 1)
	}
	if e.Kind == api.EventTimer {
		e.B, e.C = 1+d.upTo(40), 1+d.upTo(5)
	}
	if d.upTo(19) == 0 {
		switch d.upTo(3) {
		case 0:
			e.Kind = d.pick(-1, 0, 6, 7)
		case 1:
			e.At = d.pick(now-1, -1, 1<<24+1)
		case 2:
			e.A = d.pick(-1, 7, 8, 1<<40)
		case 3:
			e.B, e.C = d.pick(0, -1, 1<<20+1), d.pick(0, -1, 257)
		}
	}
	return e
}
