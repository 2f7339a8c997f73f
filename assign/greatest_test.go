package assign

import (
	"slices"
	"testing"

	"signalbox/admit"
	"signalbox/api"
	"signalbox/conf"
	"signalbox/cost"
	"signalbox/monitor"
	"signalbox/play"
	"signalbox/script"
)

// drawing is a row of numbers below n that look drawn.
func drawing(seed uint32) func(n int) int {
	return func(n int) int {
		seed = seed*1664525 + 1013904223
		return int(seed>>8) % n
	}
}

// drawn is a configuration of so many tasks, whose numbers don't rise with their priorities; it is admitted now and then, with some thresholds or others.
func drawn(draw func(n int) int, count int) api.Config {
	c := of()
	c.Lines = nil
	priorities := make([]int, 0, count)
	for len(priorities) < count {
		if p := draw(64 >> draw(6)); !slices.Contains(priorities, p) {
			priorities = append(priorities, p)
		}
	}
	for _, p := range priorities {
		t := task(p, 1, 1, "access 3")
		for range draw(4) {
			switch draw(4) {
			case 0:
				t.Program = append(t.Program, program("enter;compute 3;exit")...)
			case 1:
				if p <= c.Ceilings[1] {
					t.Program = append(t.Program, program("lock 1;compute 4;unlock 1")...)
				}
			default:
				t.Program = append(t.Program, api.Op{Kind: api.OpCompute, A: 1 + draw(20)})
			}
		}
		t.Float = draw(2) * draw(12)
		t.Period = 70*count + draw(150)
		t.Threshold = draw(99) - 20
		c.Tasks = append(c.Tasks, t)
	}
	for i, t := range c.Tasks { // so that little more may be borne than what it must be
		c.Tasks[i].Deadline = min(ahead(c, t.Priority)+draw(30), t.Period)
	}
	return c
}

// ahead is what all tasks from a priority up take, once each.
func ahead(c api.Config, priority int) int {
	sum := 0
	for _, t := range c.Tasks {
		if t.Priority >= priority {
			sum += cost.Worst(t.Program, c.Machine)
		}
	}
	return sum
}

// every calls a function with all rows of one of each choice.
func every(choices [][]int, call func(l []int)) {
	l := make([]int, len(choices))
	var from func(i int)
	from = func(i int) {
		if i == len(l) {
			call(l)
			return
		}
		for _, n := range choices[i] {
			l[i] = n
			from(i + 1)
		}
	}
	from(0)
}

// corners are the thresholds on both sides of which something may change: a task's own priority, those above it, those just below them, and the greatest.
func corners(c api.Config, task int) []int {
	own := c.Tasks[task].Priority
	l := []int{own, api.MaxPriority}
	for _, t := range c.Tasks {
		if t.Priority > own {
			l = append(l, t.Priority-1, t.Priority)
		}
	}
	slices.Sort(l)
	return slices.Compact(l)
}

// holds asks whether what is found passes, and none of these that passes is greater in any place; if none is found, whether none passes.
func holds(t *testing.T, c api.Config, choices [][]int) bool {
	t.Helper()
	found, ok := Search(c)
	if ok && !admit.Admitted(with(c, found)) {
		t.Fatalf("%v: %v is found, and doesn't pass", c, found)
	}
	if !ok && len(found) > 0 {
		t.Fatalf("%v: none, and %v", c, found)
	}
	every(choices, func(l []int) {
		passes := admit.Admitted(with(c, l))
		if got := Passes(c, l); got != passes {
			t.Fatalf("%v, %v: passes %v", c, l, got)
		}
		if !passes {
			return
		}
		if !ok {
			t.Fatalf("%v: none is found, and %v passes", c, l)
		}
		for i := range l {
			if l[i] > found[i] {
				t.Fatalf("%v: %v is found, and %v passes", c, found, l)
			}
		}
	})
	return ok
}

// TestAllAssignments: of one task and of two all that there are.
func TestAllAssignments(t *testing.T) {
	draw := drawing(29)
	some, none, lower := 0, 0, 0
	for n := range 60 {
		c := drawn(draw, 1+min(n%4, 1))
		choices := make([][]int, len(c.Tasks))
		for i, task := range c.Tasks {
			for threshold := max(task.Priority-1, 0); threshold <= api.MaxPriority; threshold++ { // the first one of which may not be
				choices[i] = append(choices[i], threshold)
			}
		}
		if !holds(t, c, choices) {
			none++
			continue
		}
		some++
		if found, _ := Search(c); slices.Min(found) < api.MaxPriority {
			lower++
		}
	}
	if some < 20 || none < 5 || lower < 10 {
		t.Errorf("only %d have one, %d of them below the greatest; %d have none", some, lower, none)
	}
}

// TestCorners: of more tasks those on both sides of what may change.
func TestCorners(t *testing.T) {
	draw := drawing(16)
	some, none, own, between := 0, 0, 0, 0
	for n := range 160 {
		c := drawn(draw, 2+n%3)
		was := copied(c)
		choices := make([][]int, len(c.Tasks))
		for i := range choices {
			choices[i] = corners(c, i)
		}
		ok := holds(t, c, choices)
		if !conf.Same(c, was) {
			t.Fatalf("%v is changed: %v", was, c)
		}
		if !ok {
			none++
			continue
		}
		some++
		found, _ := Search(c)
		for i, threshold := range found {
			highest := slices.Max(Least(c))
			switch {
			case threshold+1 == highest || threshold == api.MaxPriority:
			case slices.Contains(Least(c), threshold+1):
				between++
			}
			if threshold < c.Tasks[i].Priority || threshold > api.MaxPriority {
				t.Fatalf("%v: %v", c, found)
			}
			if threshold == c.Tasks[i].Priority {
				own++
			}
		}
	}
	if some < 50 || none < 20 || own < 10 || between < 20 {
		t.Errorf("only %d have one, %d none; %d stay at their own priority, %d below one between", some, none, own, between)
	}
}

// TestRuns: with what is found no job of a run is late.
func TestRuns(t *testing.T) {
	draw := drawing(3)
	runs := 0
	for range 400 {
		c := drawn(draw, 1+draw(4))
		l, ok := Search(c)
		if !ok {
			continue
		}
		c, e := With(c, l)
		if e != api.OK {
			t.Fatal(c, l, e)
		}
		r, _, e := play.Play(c, script.Periodic(c, 3000), 9000)
		if late := monitor.Late(c, r.Reports, r.Now); e != api.OK || len(r.Reports) == 0 || len(late) > 0 {
			t.Fatalf("%v: %d, late %v of %v", c, e, late, r.Reports)
		}
		runs++
	}
	if runs < 100 {
		t.Errorf("only %d runs", runs)
	}
}
