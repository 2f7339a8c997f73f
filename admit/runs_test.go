package admit

import (
	"slices"
	"testing"

	"signalbox/api"
	"signalbox/kernel"
	"signalbox/monitor"
	"signalbox/prog"
)

// mayBe is a configuration that may be, that is sometimes admitted.
func mayBe(draw func(n int) int) api.Config {
	hit := 1 + draw(2)
	c := api.Config{Machine: api.Machine{Sets: 1 + draw(3), Ways: 1 + draw(3), Hit: hit, Miss: hit + draw(5)}, Groups: 1}
	for range draw(4) {
		c.Ceilings = append(c.Ceilings, draw(12))
	}
	busier := 1 + draw(4)
	for i := range 1 + draw(5) {
		priority := 2*i + draw(2)
		t := api.Task{
			Priority: priority, Threshold: min(priority+draw(3)*draw(4), 63), Frame: draw(9), Float: draw(2) * draw(6),
			Program: nested(draw, c.Ceilings, priority),
		}
		t.Period = max(20*busier+draw(60*busier)-10*i, 2)
		t.Deadline = t.Period - draw(2)*draw(t.Period/2)
		c.Tasks = append(c.Tasks, t)
	}
	for i := len(c.Tasks) - 1; i > 0; i-- { // so that numbers don't rise with priorities
		other := draw(i + 1)
		c.Tasks[i], c.Tasks[other] = c.Tasks[other], c.Tasks[i]
	}
	for range draw(3) {
		c.Lines = append(c.Lines, draw(len(c.Tasks)))
	}
	return c
}

// nested is a program in which regions and locks nest, and are closed at the end. It may push more than there is room for.
func nested(draw func(n int) int, ceilings []int, priority int) []api.Op {
	l := []api.Op{{Kind: api.OpAccess, A: draw(6)}}
	var ends []api.Op
	locked := 0
	for range draw(10) {
		switch draw(9) {
		case 0:
			l = append(l, api.Op{Kind: api.OpEnter})
			ends = append(ends, api.Op{Kind: api.OpExit})
		case 1:
			if locked < len(ceilings) && ceilings[locked] >= priority {
				l = append(l, api.Op{Kind: api.OpLock, A: locked})
				ends = append(ends, api.Op{Kind: api.OpUnlock, A: locked})
				locked++
			}
		case 2, 3:
			if len(ends) > 0 {
				end := ends[len(ends)-1]
				l, ends = append(l, end), ends[:len(ends)-1]
				if end.Kind == api.OpUnlock {
					locked--
				}
			}
		case 4:
			l = append(l, api.Op{Kind: api.OpCompute, A: 1 + draw(9)})
		case 5:
			l = append(l, api.Op{Kind: api.OpPush, A: 1 + draw(2)})
		case 6:
			l = append(l, api.Op{Kind: api.OpSet, A: 0, B: draw(9)})
		default:
			l = append(l, api.Op{Kind: api.OpAccess, A: draw(9)})
		}
	}
	slices.Reverse(ends)
	return append(l, ends...)
}

// comes lets each task come as often as may be, or somewhat less, from some tick on; now and then by a line that is its, or by a timer.
func comes(t *testing.T, draw func(n int) int, c api.Config, k *kernel.Kernel) {
	t.Helper()
	for i, task := range c.Tasks {
		spare := draw(2) * draw(9)
		at := draw(2) * draw(task.Period)
		line := slices.Index(c.Lines, i)
		e := api.Event{Kind: api.EventRelease, A: i}
		switch {
		case line >= 0 && draw(2) == 0:
			e = api.Event{Kind: api.EventRaise, A: line}
		case draw(3) == 0:
			e = api.Event{Kind: api.EventTimer, A: i, B: task.Period + spare, C: 20}
		}
		for n := range 20 {
			if e.At = at; n == 0 || e.Kind != api.EventTimer {
				if code := k.Event(e); code != api.OK {
					t.Fatalf("%v: %+v: %d", c, e, code)
				}
			}
			at += task.Period + draw(1+spare)
		}
	}
}

// reached is how often what is told is met, but not passed.
type reached struct{ runs, response, preempts, extra, stack int }

// keeps asks of all jobs of a run whether what is told holds.
func (m *reached) keeps(t *testing.T, c api.Config, a Analysis, k *kernel.Kernel) {
	t.Helper()
	for place, r := range k.Reports() {
		l, task := a.Lines[r.Task], c.Tasks[r.Task]
		alone, _, e := k.Alone(place)
		response, displaced, misses := uint64(r.End-r.Release), uint64(r.Displaced), uint64(r.Misses)
		room := uint64(alone) + l.Extra
		each := uint64(alone) + displaced*l.Reload
		if e != api.OK || r.End < 0 || response > l.Response || displaced > l.Preempts || misses > room || misses > each || r.Withheld > task.Float {
			t.Fatalf("%v: %+v, alone %d, told %+v", c, r, alone, l)
		}
		if response == l.Response {
			m.response++
		}
		if displaced == l.Preempts && displaced > 1 {
			m.preempts++
		}
		if misses == room && l.Extra > 0 {
			m.extra++
		}
	}
	if k.Peak() > a.Stack {
		t.Fatalf("%v: %d deep, told %d", c, k.Peak(), a.Stack)
	}
	if k.Peak() == a.Stack && a.Stack > 0 {
		m.stack++
	}
	m.runs++
}

// TestRuns: no run of a configuration that is admitted, in which nobody comes too soon, passes what is told; some meet it.
func TestRuns(t *testing.T) {
	draw := drawing(15)
	var m reached
	for range 4000 {
		c := mayBe(draw)
		a, e := Analyse(c)
		if e != api.OK {
			continue
		}
		for range 4 {
			k, _ := kernel.New(c)
			comes(t, draw, c, k)
			k.Run(20000)
			if flag, soon := monitor.First(c, k.Trace()); soon {
				t.Fatalf("%v: too soon: %+v", c, flag)
			}
			m.keeps(t, c, a, k)
		}
	}
	if m.runs < 2000 || m.response < 500 || m.preempts < 500 || m.extra < 50 || m.stack < 500 {
		t.Errorf("only so many: %+v", m)
	}
}

// TestConfigurationsMayBe: those of the tests above.
func TestConfigurationsMayBe(t *testing.T) {
	draw := drawing(1)
	for range 1000 {
		c := mayBe(draw)
		for _, task := range c.Tasks {
			if e := prog.Check(task.Program, prog.Room{Groups: 1, Ceilings: len(c.Ceilings)}); e != api.OK {
				t.Fatalf("%v: %d", task, e)
			}
		}
		if _, e := Analyse(c); e != api.OK && e != api.ErrLate {
			t.Fatalf("%v: %d", c, e)
		}
	}
}
