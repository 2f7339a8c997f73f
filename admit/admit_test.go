package admit

import (
	"math"
	"math/big"
	"slices"
	"testing"

	"signalbox/api"
	"signalbox/busy"
	"signalbox/chain"
	"signalbox/conf"
	"signalbox/cost"
	"signalbox/preempt"
	"signalbox/prog"
	"signalbox/reload"
)

// top is the greatest number, typed.
const top uint64 = api.Unbounded

// drawing is a row of numbers below n that look drawn.
func drawing(seed uint32) func(n int) int {
	return func(n int) int {
		seed = seed*1664525 + 1013904223
		return int(seed>>8) % n
	}
}

// program is a text's, which must be one.
func program(s string) []api.Op {
	l, e := prog.Parse(s)
	if e != api.OK {
		panic(s)
	}
	return l
}

// compute is a program that takes so long.
func compute(cycles int) []api.Op {
	var l []api.Op
	for ; cycles > api.MaxCycles; cycles -= api.MaxCycles {
		l = append(l, api.Op{Kind: api.OpCompute, A: api.MaxCycles})
	}
	return append(l, api.Op{Kind: api.OpCompute, A: cycles})
}

// task is one of a priority and a threshold, of which each job takes so long, and has to be done when the next one comes.
func task(priority, threshold, period int, l []api.Op) api.Task {
	return api.Task{Priority: priority, Threshold: threshold, Period: period, Deadline: period, Program: l}
}

// by is a task with another deadline.
func by(deadline int, t api.Task) api.Task {
	t.Deadline = deadline
	return t
}

// of is a configuration of tasks; all else of it may be.
func of(tasks ...api.Task) api.Config {
	return api.Config{Machine: api.Machine{Sets: 2, Ways: 2, Hit: 1, Miss: 10}, Ceilings: []int{4, 9}, Tasks: tasks}
}

// loaded are tasks of these periods, the highest priority first, each of which takes a tick.
func loaded(periods ...int) api.Config {
	var l []api.Task
	for i, p := range periods {
		l = append(l, task(50-i, 50-i, p, compute(1)))
	}
	return of(l...)
}

// loads are some, each a cost and a period.
func loads(pairs ...[2]uint64) []busy.Load {
	var l []busy.Load
	for _, p := range pairs {
		l = append(l, busy.Load{Cost: p[0], Period: p[1]})
	}
	return l
}

// copied is a configuration in new memory.
func copied(c api.Config) api.Config {
	c.Ceilings = slices.Clone(c.Ceilings)
	c.Tasks = slices.Clone(c.Tasks)
	for i := range c.Tasks {
		c.Tasks[i].Program = slices.Clone(c.Tasks[i].Program)
	}
	return c
}

func TestExample(t *testing.T) {
	c := of(task(1, 1, 10, compute(5)))
	c.Tasks[0].Frame = 7
	a, e := Analyse(c)
	if e != api.OK || len(a.Lines) != 1 || a.Lines[0] != (Line{Cost: 5, Response: 5}) || a.Stack != 7 || !Admitted(c) {
		t.Error(a, e, Admitted(c))
	}
	if l := Loads(c, 0); !slices.Equal(l, loads([2]uint64{5, 10})) {
		t.Error(l)
	}
	if used, all := Used(c); used != 5 || all != 10 {
		t.Error(used, all)
	}
}

func TestAnalyse(t *testing.T) {
	for _, c := range []struct {
		name  string
		tasks []api.Task
		want  []Line
		e     api.Errno
	}{
		{"one above", []api.Task{task(1, 1, 20, compute(5)), task(2, 2, 10, compute(3))}, []Line{{5, 0, 8, 1, 0, 0}, {3, 0, 3, 0, 0, 0}}, api.OK},
		{"one above, twice", []api.Task{task(1, 1, 20, compute(8)), task(2, 2, 10, compute(3))}, []Line{{8, 0, 14, 2, 0, 0}, {3, 0, 3, 0, 0, 0}}, api.OK},
		{"one that isn't above the Threshold", []api.Task{task(1, 2, 20, compute(5)), task(2, 2, 10, compute(3))}, []Line{{5, 0, 8, 0, 0, 0}, {3, 5, 8, 0, 0, 0}}, api.OK},
		{"a response that is the deadline", []api.Task{task(1, 2, 20, compute(7)), task(2, 2, 10, compute(3))}, []Line{{7, 0, 10, 0, 0, 0}, {3, 7, 10, 0, 0, 0}}, api.OK},
		{"a response a tick behind it", []api.Task{task(1, 2, 20, compute(8)), task(2, 2, 10, compute(3))}, []Line{{8, 0, 14, 0, 0, 0}, {3, 8, 14, 0, 0, 0}}, api.ErrLate},
		{"the lowest one is late", []api.Task{task(2, 2, 10, compute(6)), by(26, task(1, 1, 30, compute(9)))}, []Line{{6, 0, 6, 0, 0, 0}, {9, 0, 27, 3, 0, 0}}, api.ErrLate},
		{"the one between is late", []api.Task{task(1, 1, 99, compute(1)), by(26, task(2, 2, 30, compute(9))), task(3, 3, 10, compute(6))}, []Line{{1, 0, 28, 4, 0, 0}, {9, 0, 27, 3, 0, 0}, {6, 0, 6, 0, 0, 0}}, api.ErrLate},
		{"blocks that are loaded again", []api.Task{task(1, 1, 900, program("access 1;access 3;access 5;access 2")), task(2, 2, 50, program("access 7"))}, []Line{{40, 0, 50, 1, 2, 2}, {10, 0, 10, 0, 0, 0}}, api.OK},
		{"blocks that are loaded again, twice", []api.Task{task(1, 1, 900, program("access 1;access 3;access 5;compute 15")), task(2, 2, 50, program("access 7"))}, []Line{{45, 0, 65, 2, 2, 4}, {10, 0, 10, 0, 0, 0}}, api.OK},
		{"nobody is above it, though they would load", []api.Task{task(1, 2, 900, program("access 1;access 3")), task(2, 2, 50, program("access 7"))}, []Line{{20, 0, 30, 0, 0, 0}, {10, 20, 30, 0, 0, 0}}, api.OK},
		{"more than there is", []api.Task{task(1, 1, 10, compute(11))}, []Line{{11, 0, top, top, 0, top}}, api.ErrLate}, // though nobody is above it, and nothing is loaded
		{"more than there is, and blocks", []api.Task{task(1, 1, 12, program("access 1")), task(2, 2, 10, program("access 7"))}, []Line{{10, 0, top, top, 1, top}, {10, 0, 10, 0, 0, 0}}, api.ErrLate},
		{"more than there is, but for the highest one", []api.Task{task(3, 3, 10, compute(9)), task(1, 3, 90, compute(1)), task(2, 2, 10, compute(2))}, []Line{{9, 1, 10, 0, 0, 0}, {1, 0, top, top, 0, top}, {2, 1, top, top, 0, top}}, api.ErrLate},
		{"a stretch", []api.Task{task(1, 1, 90, program("compute 9;lock 0;compute 2;unlock 0;enter;exit")), task(4, 4, 30, compute(3)), task(5, 5, 30, compute(4))}, []Line{{15, 0, 22, 2, 0, 0}, {3, 6, 13, 1, 0, 0}, {4, 2, 6, 0, 0, 0}}, api.OK},
		{"as much as there is", []api.Task{task(3, 3, 2, compute(1)), task(2, 2, 4, compute(1)), task(1, 1, 8, compute(2))}, []Line{{1, 0, 1, 0, 0, 0}, {1, 0, 2, 1, 0, 0}, {2, 0, 8, 6, 0, 0}}, api.OK},
	} {
		config := of(c.tasks...)
		was := copied(config)
		for range 2 {
			a, e := Analyse(config)
			if e != c.e || !slices.Equal(a.Lines, c.want) || a.Stack != 0 {
				t.Errorf("%s: %v, %d, want %v, %d", c.name, a, e, c.want, c.e)
			}
			if Admitted(config) != (c.e == api.OK) {
				t.Errorf("%s: admitted %v", c.name, Admitted(config))
			}
			clear(a.Lines) // which the next call doesn't see
		}
		if !conf.Same(config, was) {
			t.Errorf("%s: %v is changed: %v", c.name, was, config)
		}
	}
}

// TestFloats: what is withheld is in the delay, of those of a higher priority alone.
func TestFloats(t *testing.T) {
	c := of(task(1, 1, 90, compute(30)), task(2, 2, 90, compute(5)), task(3, 3, 90, compute(7)))
	for _, f := range []struct {
		floats [3]int
		want   []Line
	}{
		{[3]int{0, 0, 0}, []Line{{30, 0, 42, 2, 0, 0}, {5, 0, 12, 1, 0, 0}, {7, 0, 7, 0, 0, 0}}},
		{[3]int{2, 0, 0}, []Line{{30, 0, 42, 2, 0, 0}, {5, 2, 14, 1, 0, 0}, {7, 2, 9, 0, 0, 0}}},
		{[3]int{2, 3, 0}, []Line{{30, 0, 42, 2, 0, 0}, {5, 2, 14, 1, 0, 0}, {7, 3, 10, 0, 0, 0}}},
		{[3]int{1 << 20, 1 << 20, 1 << 20}, []Line{{30, 0, 42, 2, 0, 0}, {5, 30, 42, 1, 0, 0}, {7, 30, 37, 0, 0, 0}}},
	} {
		for i, float := range f.floats {
			c.Tasks[i].Float = float
		}
		if a, e := Analyse(c); e != api.OK || !slices.Equal(a.Lines, f.want) {
			t.Errorf("%v: %v, %d", f.floats, a.Lines, e)
		}
	}
}

// TestDeadlines: each response is held against its task's own, which changes nothing of what is told.
func TestDeadlines(t *testing.T) {
	c := of(task(1, 1, 90, compute(30)), task(2, 2, 90, compute(5)), task(3, 3, 90, compute(7)))
	responses := []int{42, 12, 7}
	was, _ := Analyse(c)
	for i, response := range responses {
		for _, deadline := range []int{1, response - 1, response, response + 1, 90} {
			late := copied(c)
			late.Tasks[i].Deadline = deadline
			want := api.OK
			if deadline < response {
				want = api.ErrLate
			}
			a, e := Analyse(late)
			if e != want || Admitted(late) != (want == api.OK) || !slices.Equal(a.Lines, was.Lines) || a.Stack != was.Stack {
				t.Errorf("task %d, deadline %d: %v, %d, want %v, %d", i, deadline, a, e, was, want)
			}
		}
	}
}

// TestStack: how deep it gets is told, also if somebody is late.
func TestStack(t *testing.T) {
	c := of(task(1, 1, 90, compute(30)), task(2, 3, 90, compute(5)), task(3, 3, 90, compute(7)))
	for i, frame := range []int{100, 20, 3} {
		c.Tasks[i].Frame = frame
	}
	for _, deadline := range []int{90, 1} {
		c.Tasks[0].Deadline = deadline
		if a, _ := Analyse(c); a.Stack != 120 || a.Stack != chain.Bound(c) {
			t.Errorf("deadline %d: %d", deadline, a.Stack)
		}
	}
}

// TestLateResponses: a response that is above every deadline is told, up to MaxTime.
func TestLateResponses(t *testing.T) {
	c := loaded(2, 3, 7, 43, 1807, 1<<20) // the first five leave a tick in 3263442
	for delay := 4; delay <= 6; delay++ {
		c.Tasks[5].Threshold, c.Tasks[5].Program = 63, compute(delay)
		c.Tasks[4].Threshold = 63
		a, e := Analyse(c)
		want := Line{1, uint64(delay), uint64(delay) * 3263442, 0, 0, 0}
		if delay == 6 { // beyond MaxTime
			want = Line{1, 6, top, top, 0, top}
		}
		if e != api.ErrLate || len(a.Lines) != 6 || a.Lines[4] != want {
			t.Errorf("delay %d: %v, %d, want %v", delay, a, e, want)
		}
	}
}

// spoilt are configurations that may not be, each for a reason of its own.
func spoilt() map[string]api.Config {
	l := map[string]api.Config{"nothing": {}}
	for name, spoil := range map[string]func(c *api.Config){
		"no sets":             func(c *api.Config) { c.Machine.Sets = 0 },
		"a miss below a hit":  func(c *api.Config) { c.Machine.Hit = 11 },
		"no tasks":            func(c *api.Config) { c.Tasks = nil },
		"too many tasks":      func(c *api.Config) { *c = loaded(9, 9, 9, 9, 9, 9, 9, 9, 9) },
		"groups below 0":      func(c *api.Config) { c.Groups = -1 },
		"a line of no task":   func(c *api.Config) { c.Lines = []int{2} },
		"no program":          func(c *api.Config) { c.Tasks[1].Program = nil },
		"no operation":        func(c *api.Config) { c.Tasks[1].Program[0].Kind = 99 },
		"too long a compute":  func(c *api.Config) { c.Tasks[1].Program[0].A = 1001 },
		"a region not closed": func(c *api.Config) { c.Tasks[1].Program = program("enter") },
		"a low ceiling":       func(c *api.Config) { c.Tasks[1].Program = program("lock 0;unlock 0") },
		"a priority twice":    func(c *api.Config) { c.Tasks[0].Priority, c.Tasks[0].Threshold = 5, 5 },
		"a low threshold":     func(c *api.Config) { c.Tasks[1].Threshold = 4 },
		"no period":           func(c *api.Config) { c.Tasks[1].Period = 0 },
		"a period below 0":    func(c *api.Config) { c.Tasks[1].Period = math.MinInt },
		"too late a deadline": func(c *api.Config) { c.Tasks[1].Deadline = 91 },
		"no deadline":         func(c *api.Config) { c.Tasks[1].Deadline = 0 },
		"a frame below 0":     func(c *api.Config) { c.Tasks[1].Frame = -1 },
		"a float below 0":     func(c *api.Config) { c.Tasks[1].Float = -1 },
		"too great a float":   func(c *api.Config) { c.Tasks[1].Float = 1<<20 + 1 },
	} {
		c := of(task(1, 1, 90, compute(3)), task(5, 5, 90, compute(4)))
		c.Tasks[0].Frame = 7 // so that there is a stack that could be told
		spoil(&c)
		l[name] = c
	}
	return l
}

// TestOfWrongConfigurations: the check's error, and nothing beside it.
func TestOfWrongConfigurations(t *testing.T) {
	for name, c := range spoilt() {
		was := copied(c)
		want := conf.Check(c)
		a, e := Analyse(c)
		if want == api.OK || e != want || len(a.Lines) != 0 || a.Stack != 0 || Admitted(c) {
			t.Errorf("%s: %v, %d, admitted %v, want %d", name, a, e, Admitted(c), want)
		}
		if used, all := Used(c); used != 0 || all != 0 {
			t.Errorf("%s: %d of %d used", name, used, all)
		}
		if !conf.Same(c, was) {
			t.Errorf("%s: %v is changed: %v", name, was, c)
		}
	}
}

func TestLoads(t *testing.T) {
	c := of(task(5, 63, 50, compute(3)), task(9, 9, 20, program("access 1;access 1")), task(1, 1, 70, compute(4)), task(7, 1, 60, compute(6)))
	was := copied(c)
	for i, want := range [][][2]uint64{
		{{3, 50}, {20, 20}, {6, 60}},
		{{20, 20}},
		{{3, 50}, {20, 20}, {4, 70}, {6, 60}},
		{{20, 20}, {6, 60}},
	} {
		for range 2 {
			l := Loads(c, i)
			if !slices.Equal(l, loads(want...)) {
				t.Errorf("task %d: %v, want %v", i, l, want)
			}
			clear(l) // which the next call doesn't see
		}
	}
	if !conf.Same(c, was) {
		t.Errorf("%v is changed: %v", was, c)
	}
}

// TestLoadsOfWrongConfigurations: they are told of any one.
func TestLoadsOfWrongConfigurations(t *testing.T) {
	c := of(task(5, 5, -1, compute(3)), task(5, 5, 0, nil), task(-3, 5, math.MinInt, nil), task(math.MaxInt, 0, math.MaxInt, []api.Op{{Kind: api.OpCompute, A: -1}, {Kind: 99}}), task(5, 5, 8, compute(2)))
	c.Machine.Miss = -7
	c.Tasks[4].Program = program("access 1;compute 2")
	for i, want := range [][][2]uint64{
		{{3, 0}, {1, math.MaxInt}},
		{{0, 0}, {1, math.MaxInt}}, // others of one Priority are no loads
		{{3, 0}, {0, 0}, {0, 0}, {1, math.MaxInt}, {2, 8}},
		{{1, math.MaxInt}},
		{{1, math.MaxInt}, {2, 8}},
	} {
		if l := Loads(c, i); !slices.Equal(l, loads(want...)) {
			t.Errorf("task %d: %v, want %v", i, l, want)
		}
	}
}

func TestLoadsOfNoTask(t *testing.T) {
	for _, c := range []api.Config{{}, loaded(9), loaded(9, 9, 9)} {
		count := len(c.Tasks)
		for _, none := range []int{math.MinInt, -1 << 32, -2, -1, count, count + 1, 8, 1 << 32, math.MaxInt} {
			if l := Loads(c, none); len(l) != 0 {
				t.Errorf("%d of %d tasks: %v", none, count, l)
			}
		}
	}
}

func TestUsed(t *testing.T) {
	const k, m = 1 << 10, 1 << 20
	for _, c := range []struct {
		periods   []int
		costs     []int
		used, all uint64
	}{
		{[]int{10}, []int{5}, 5, 10},
		{[]int{1}, []int{1}, 1, 1},
		{[]int{10, 10}, []int{5, 5}, 100, 100}, // no fraction is made shorter
		{[]int{2, 3, 7}, []int{1, 1, 1}, 21 + 14 + 6, 42},
		{[]int{7, 20, 3}, []int{3, 11, 2}, 3*60 + 11*21 + 2*140, 420},
		{[]int{5}, []int{60}, 60, 5}, // more than there is
		{[]int{m, m, m}, []int{1, 2, 3}, 6 << 40, 1 << 60},
		{[]int{m, m, m, 15}, []int{1, 1, 1, 1}, 3*15<<40 + 1<<60, 15 << 60},
		{[]int{m, m, m, 16}, []int{1, 1, 1, 1}, 3*16<<40 + 1<<60, top},
		{[]int{m, m, m, 16}, []int{1, 1, 1, 15}, 3*16<<40 + 15<<60, top},
		{[]int{m, m, m, 16}, []int{1, 1, 1, 16}, top, top},
		{[]int{m, m, m, 1}, []int{1, 1, 1, 15}, 3<<40 + 15<<60, 1 << 60},
		{[]int{m, m, m, 1}, []int{1, 1, 1, 16}, top, 1 << 60}, // more than there is, and the product is below it
		{[]int{1, m, m, m}, []int{16, 1, 1, 1}, top, 1 << 60},
		{[]int{m, m, m, k}, []int{1, 1, 1, 1}, 3<<50 + 1<<60, top},
		{[]int{k, m, m, m}, []int{1, 1, 1, 1}, 3<<50 + 1<<60, top},
		{[]int{m, m, m, m, 1}, []int{1, 1, 1, 1, 1}, top, top},
		{[]int{m, m, m, m, m, m, m, m}, []int{1, 1, 1, 1, 1, 1, 1, 1}, top, top},
	} {
		config := loaded(c.periods...)
		for i, cycles := range c.costs {
			config.Tasks[i].Program = compute(cycles)
		}
		if used, all := Used(config); used != c.used || all != c.all {
			t.Errorf("%v, %v: %d of %d, want %d of %d", c.periods, c.costs, used, all, c.used, c.all)
		}
	}
	late := of(task(1, 1, 90, program("access 3;access 3;set 0 1")))
	late.Groups, late.Tasks[0].Deadline = 1, 1 // late, and no access is found
	if used, all := Used(late); used != 21 || all != 90 {
		t.Error(used, all)
	}
}

// plainUsed counts with numbers of any size.
func plainUsed(c api.Config) (uint64, uint64) {
	bounded := func(n *big.Int) uint64 {
		if n.IsUint64() {
			return n.Uint64()
		}
		return top
	}
	used, all := new(big.Int), big.NewInt(1)
	for i, t := range c.Tasks {
		part := big.NewInt(int64(cost.Worst(t.Program, c.Machine)))
		for other, o := range c.Tasks {
			if other != i {
				part.Mul(part, big.NewInt(int64(o.Period)))
			}
		}
		used.Add(used, part)
		all.Mul(all, big.NewInt(int64(t.Period)))
	}
	return bounded(used), bounded(all)
}

func TestUsedIsExactOrUnbounded(t *testing.T) {
	draw := drawing(64)
	exact := 0
	for range 5000 {
		var periods []int
		for range 1 + draw(8) {
			periods = append(periods, 1+draw(1<<(10+draw(11))))
		}
		c := loaded(periods...)
		for i := range c.Tasks {
			c.Tasks[i].Program = compute(1 + draw(1<<draw(15)))
		}
		used, all := Used(c)
		if wantUsed, wantAll := plainUsed(c); used != wantUsed || all != wantAll {
			t.Fatalf("%v: %d of %d, want %d of %d", periods, used, all, wantUsed, wantAll)
		}
		if used < top && all == top {
			exact++
		}
	}
	if exact < 20 {
		t.Errorf("only %d have a sum of a product that is Unbounded", exact)
	}
}

// plainLine tries each window.
func plainLine(c api.Config, i int) Line {
	t := c.Tasks[i]
	l := Line{
		Cost:     uint64(cost.Worst(t.Program, c.Machine)),
		Delay:    preempt.Delay(c, i),
		Response: top, Preempts: top, Extra: top,
		Reload: uint64(reload.Bound(c, i)),
	}
	for x := 1; x <= 20000; x++ { // what may be late by more than that isn't made
		demand := int(l.Delay)
		var count uint64
		for _, o := range c.Tasks {
			often := (x + o.Period - 1) / o.Period
			if o.Priority >= t.Priority {
				demand += often * cost.Worst(o.Program, c.Machine)
			}
			if o.Priority > t.Threshold {
				count += uint64(often)
			}
		}
		if demand <= x {
			l.Response, l.Preempts, l.Extra = uint64(x), count, count*l.Reload
			return l
		}
	}
	return l
}

func TestOfAnyConfiguration(t *testing.T) {
	draw := drawing(28)
	admitted, late, endless := 0, 0, 0
	for range 1200 {
		c := mayBe(draw)
		was := copied(c)
		a, e := Analyse(c)
		want := api.OK
		for i, task := range c.Tasks {
			line := plainLine(c, i)
			if line.Response > uint64(task.Deadline) {
				want = api.ErrLate
			}
			if line.Response == top {
				endless++
			}
			if a.Lines[i] != line {
				t.Fatalf("%v, task %d: %v, want %v", c, i, a.Lines[i], line)
			}
			if x, _ := busy.Window(line.Delay, Loads(c, i), api.MaxTime); x != line.Response {
				t.Fatalf("%v, task %d: %v have a window of %d, want %d", c, i, Loads(c, i), x, line.Response)
			}
		}
		if e != want || Admitted(c) != (want == api.OK) || len(a.Lines) != len(c.Tasks) || a.Stack != chain.Bound(c) {
			t.Fatalf("%v: %v, %d, want %d", c, a, e, want)
		}
		if used, all := Used(c); want == api.OK && used > all {
			t.Fatalf("%v: admitted, and uses %d of %d", c, used, all)
		}
		if !conf.Same(c, was) {
			t.Fatalf("%v is changed: %v", was, c)
		}
		if want == api.OK {
			admitted++
		} else {
			late++
		}
	}
	if admitted < 200 || late < 200 || endless < 200 {
		t.Errorf("only %d are admitted, %d late, %d responses without an end", admitted, late, endless)
	}
}
