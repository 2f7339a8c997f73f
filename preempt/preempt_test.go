package preempt

import (
	"math"
	"math/big"
	"slices"
	"testing"

	"signalbox/api"
	"signalbox/conf"
	"signalbox/kernel"
	"signalbox/prog"
)

// top is the greatest number, typed.
const top uint64 = api.Unbounded

// drawing is a row of numbers below n that look drawn.
func drawing(seed uint32) func(n int) int {
	return func(n int) int {
		seed = seed*1664525 + 1013904223
		return int(seed>>8) % n
	}
}

// program is a text's, which must be one.
func program(t *testing.T, s string) []api.Op {
	t.Helper()
	l, e := prog.Parse(s)
	if e != api.OK {
		t.Fatalf("%q: %d", s, e)
	}
	return l
}

// compute is a program that takes so long.
func compute(cycles int) []api.Op {
	return []api.Op{{Kind: api.OpCompute, A: cycles}}
}

// machine is one that may be.
func machine() api.Machine { return api.Machine{Sets: 1, Ways: 1, Hit: 2, Miss: 9} }

// ranked are tasks of these priorities, and of thresholds as these.
func ranked(priorities ...int) api.Config {
	c := api.Config{Machine: machine()}
	for _, p := range priorities {
		c.Tasks = append(c.Tasks, api.Task{Priority: p, Threshold: p, Period: 10, Deadline: 10, Program: compute(1)})
	}
	return c
}

// below is a task of priority 1 with these tasks above it, by their periods.
func below(periods ...int) api.Config {
	c := ranked(1)
	for _, p := range periods {
		c.Tasks = append(c.Tasks, api.Task{Priority: 2, Threshold: 2, Period: p})
	}
	return c
}

// copied is a configuration in new memory.
func copied(c api.Config) api.Config {
	c.Ceilings = slices.Clone(c.Ceilings)
	c.Tasks = slices.Clone(c.Tasks)
	for i := range c.Tasks {
		c.Tasks[i].Program = slices.Clone(c.Tasks[i].Program)
	}
	return c
}

func TestExample(t *testing.T) {
	c := below(10)
	for window, want := range map[uint64]uint64{0: 0, 1: 1, 9: 1, 10: 1, 11: 2, 20: 2, 21: 3, 25: 3, 30: 3, 31: 4} {
		if got := Count(c, 0, window); got != want {
			t.Errorf("a window of %d: %d, want %d", window, got, want)
		}
	}
	if got := Count(c, 1, 25); got != 0 {
		t.Errorf("nobody is above task 1: %d", got)
	}
}

func TestCount(t *testing.T) {
	for _, c := range []struct {
		periods []int
		window  uint64
		want    uint64
	}{
		{nil, 0, 0}, {nil, 25, 0}, {nil, top, 0},
		{[]int{10, 10}, 25, 6}, {[]int{10, 7, 30}, 25, 8}, {[]int{10, 7, 30}, 0, 0}, {[]int{10, 7, 30}, 1, 3}, // each is rounded up by itself
		{[]int{1}, 25, 25}, {[]int{1 << 20}, 1 << 24, 16}, {[]int{1 << 20}, 1<<24 + 1, 17},
		{[]int{1}, top - 1, top - 1}, {[]int{1, 1}, top - 1, top}, {[]int{1, 1}, 1<<63 - 1, top - 1}, {[]int{2, 2, 2}, top - 1, top},
		{[]int{10}, top, top}, {[]int{math.MaxInt}, top, top}, {[]int{math.MaxInt}, top - 1, 2},
		{[]int{0}, 0, 0}, {[]int{0}, 1, top}, {[]int{0, 10}, 25, top}, {[]int{10, 0}, 25, top}, // a period of 0 makes nothing
		{[]int{-1}, 0, 0}, {[]int{-1}, 1, top}, {[]int{-10}, 25, top}, {[]int{10, math.MinInt}, 25, top}, {[]int{-10, 10}, 0, 0},
	} {
		config := below(c.periods...)
		was := copied(config)
		if got := Count(config, 0, c.window); got != c.want {
			t.Errorf("%+v: %d", c, got)
		}
		if !conf.Same(config, was) {
			t.Errorf("%+v: %v is changed: %v", c, was, config)
		}
	}
}

// TestCountOfThoseAbove: those whose Priority is above the Threshold, whatever the task's Priority is.
func TestCountOfThoseAbove(t *testing.T) {
	c := ranked(1, 3, 5, 7, 5)
	for i, period := range []int{0, 100, 50, 20, 25} { // a task's own period is nothing to it
		c.Tasks[i].Period = period
	}
	for threshold, want := range map[int]uint64{math.MinInt: top, 0: top, 1: 12, 2: 12, 3: 11, 4: 11, 5: 5, 6: 5, 7: 0, 63: 0, math.MaxInt: 0} {
		c.Tasks[0].Threshold = threshold
		if got := Count(c, 0, 100); got != want {
			t.Errorf("threshold %d: %d, want %d", threshold, got, want)
		}
	}
	c.Tasks[4].Threshold = 4 // of one Priority with task 2, and above itself
	if got := Count(c, 4, 100); got != 5+2+4 {
		t.Error(got)
	}
}

// noTasks are numbers of tasks that there aren't, of so many.
func noTasks(count int) []int {
	return []int{math.MinInt, -1 << 32, -2, -1, count, count + 1, 8, 1 << 32, math.MaxInt}
}

func TestOfNoTask(t *testing.T) {
	for _, c := range []api.Config{{}, ranked(1), ranked(3, 1, 2), below(0)} {
		count := len(c.Tasks)
		for _, none := range noTasks(count) {
			if Count(c, none, 0) != 0 || Count(c, none, 25) != 0 || Count(c, none, top) != 0 || Delay(c, none) != 0 {
				t.Errorf("%d of %d tasks: %d, %d, %d", none, count, Count(c, none, 25), Count(c, none, top), Delay(c, none))
			}
			if len(Lower(c, none)) != 0 || len(Higher(c, none)) != 0 {
				t.Errorf("%d of %d tasks: %v, %v", none, count, Lower(c, none), Higher(c, none))
			}
			for other := -1; other <= count; other++ {
				if Blocking(c, none, other) != 0 || Blocking(c, other, none) != 0 {
					t.Errorf("%d of %d tasks, and %d: %d, %d", none, count, other, Blocking(c, none, other), Blocking(c, other, none))
				}
			}
		}
	}
}

func TestLowerAndHigher(t *testing.T) {
	for _, c := range []struct {
		priorities    []int
		task          int
		lower, higher []int
	}{
		{[]int{5}, 0, nil, []int{0}},
		{[]int{1, 2, 3}, 0, nil, []int{0, 1, 2}},
		{[]int{1, 2, 3}, 1, []int{0}, []int{1, 2}},
		{[]int{1, 2, 3}, 2, []int{0, 1}, []int{2}},
		{[]int{9, 4, 7, 2, 8}, 2, []int{1, 3}, []int{0, 2, 4}}, // rising by numbers, not by priorities
		{[]int{4, 7, 4, 1, 4}, 2, []int{3}, []int{0, 1, 2, 4}}, // its own Priority is no lower one
		{[]int{4, 7, 4, 1, 4}, 1, []int{0, 2, 3, 4}, []int{1}},
		{[]int{0, 0, 0}, 1, nil, []int{0, 1, 2}},
		{[]int{-1, -7, 0, -1}, 0, []int{1}, []int{0, 2, 3}}, // priorities are as they are
		{[]int{math.MinInt, math.MaxInt, 0}, 2, []int{0}, []int{1, 2}},
		{[]int{math.MinInt, math.MaxInt, 0}, 0, nil, []int{0, 1, 2}},
		{[]int{math.MinInt, math.MaxInt, 0}, 1, []int{0, 2}, []int{1}},
	} {
		config := ranked(c.priorities...)
		for i := range config.Tasks { // thresholds are nothing to it
			config.Tasks[i].Threshold = 63 - 9*i
		}
		was := copied(config)
		for range 2 {
			lower, higher := Lower(config, c.task), Higher(config, c.task)
			if !slices.Equal(lower, c.lower) || !slices.Equal(higher, c.higher) {
				t.Errorf("%v, task %d: %v, %v, want %v, %v", c.priorities, c.task, lower, higher, c.lower, c.higher)
			}
			clear(lower) // which the next call doesn't see
			clear(higher)
		}
		if !conf.Same(config, was) {
			t.Errorf("%v is changed: %v", was, config)
		}
	}
}

// blocks is a configuration of a job that blocks one of priority 5: its own priority is 1.
func blocks(threshold, float int, l []api.Op, ceilings ...int) api.Config {
	c := ranked(1, 5)
	c.Ceilings = ceilings
	c.Tasks[0].Threshold, c.Tasks[0].Float, c.Tasks[0].Program = threshold, float, l
	return c
}

func TestBlocking(t *testing.T) {
	plain := program(t, "compute 30;access 1;access 1;set 0 1")                                     // 49
	regions := program(t, "compute 30;enter;compute 4;exit;compute 10;enter;access 1;exit")         // 57, the longest stretch 11
	locks := program(t, "lock 0;compute 3;unlock 0;compute 50;lock 1;compute 4;unlock 1;compute 2") // 63
	for _, c := range []struct {
		name             string
		threshold, float int
		l                []api.Op
		want             uint64
	}{
		{"nothing keeps it", 1, 0, plain, 0},
		{"a Threshold just below", 4, 0, plain, 0},
		{"a Threshold that is its Priority", 5, 0, plain, 49},
		{"a Threshold above it", 6, 0, plain, 49},
		{"a Threshold above it, and a Float", 6, 7, plain, 49},
		{"a Threshold above it, and regions", 63, 7, regions, 57},
		{"a Float", 1, 7, plain, 7},
		{"a Float of 1", 4, 1, plain, 1},
		{"as great a Float as all takes", 1, 49, plain, 49},
		{"a greater Float than that", 1, 50, plain, 49},
		{"a far greater Float", 1, math.MaxInt, plain, 49},
		{"a Float below 0 is none", 1, -1, regions, 11},
		{"a Float far below 0 is none", 1, math.MinInt, regions, 11},
		{"a Float below 0, and nothing else", 1, -7, plain, 0},
		{"regions", 1, 0, regions, 11},
		{"regions, and a Float", 1, 1, regions, 23},
		{"regions, and a Float, all of it", 1, 35, regions, 57},
		{"regions, and a Float, nearly all of it", 1, 34, regions, 56},
		{"regions, and a greater Float", 1, 36, regions, 57},
		{"regions, and the greatest Float", 1, math.MaxInt, regions, 57},
		{"ceilings", 1, 0, locks, 6},
		{"ceilings, and a Float", 1, 2, locks, 14},
		{"ceilings that are below the Threshold", 8, 2, locks, 63},
		{"no program", 1, 5, nil, 0},
		{"no program, whatever the Threshold", 9, 5, nil, 0},
	} {
		config := blocks(c.threshold, c.float, c.l, 4, 5)
		was := copied(config)
		if got := Blocking(config, 0, 1); got != c.want {
			t.Errorf("%s: %d, want %d", c.name, got, c.want)
		}
		if got := Delay(config, 1); got != c.want {
			t.Errorf("%s: a delay of %d, want %d", c.name, got, c.want)
		}
		if !conf.Same(config, was) {
			t.Errorf("%s: %v is changed: %v", c.name, was, config)
		}
	}
}

// TestBlockingByPriority: which stretches count hangs on the priority of whom they keep from going on.
func TestBlockingByPriority(t *testing.T) {
	c := blocks(2, 0, program(t, "compute 100;lock 0;compute 1;lock 1;compute 2;enter;compute 3;exit;unlock 1;compute 10;unlock 0"), 7, 20)
	for priority, want := range map[int]uint64{math.MinInt: 122, -1: 122, 0: 122, 2: 122, 3: 22, 5: 22, 7: 22, 8: 9, 20: 9, 21: 5, 63: 5, 64: 5, 65: 0, math.MaxInt: 0} {
		c.Tasks[1].Priority = priority
		if got := Blocking(c, 0, 1); got != want {
			t.Errorf("priority %d: %d, want %d", priority, got, want)
		}
		c.Tasks[0].Float = 3
		if got := Blocking(c, 0, 1); got != min(2*want+3, 122) {
			t.Errorf("priority %d, and a Float: %d, want %d", priority, got, min(2*want+3, 122))
		}
		c.Tasks[0].Float = 0
	}
}

// TestBlockingOfAnyTwo: also of one that isn't lower, and of a task and itself.
func TestBlockingOfAnyTwo(t *testing.T) {
	c := ranked(4, 9, 4)
	for i, cycles := range []int{10, 20, 40} {
		c.Tasks[i].Program = compute(cycles)
	}
	c.Tasks[2].Threshold, c.Tasks[2].Float = 3, 7 // below its own Priority
	for _, want := range [][3]int{
		{0, 0, 10}, {0, 1, 0}, {0, 2, 10},
		{1, 0, 20}, {1, 1, 20}, {1, 2, 20},
		{2, 0, 7}, {2, 1, 7}, {2, 2, 7},
	} {
		if got := Blocking(c, want[0], want[1]); got != uint64(want[2]) {
			t.Errorf("%v: %d", want, got)
		}
	}
}

// TestBlockingByLayer9: no access is found, and operations take what that layer tells, of whatever numbers.
func TestBlockingByLayer9(t *testing.T) {
	for n, counts := range map[int]uint64{math.MinInt: 0, -1: 0, 0: 0, 1: 1, 101: 101, 1 << 30: 1 << 30, 1<<30 + 1: 1 << 30, math.MaxInt: 1 << 30} {
		l := []api.Op{{Kind: api.OpEnter}, {Kind: api.OpAccess, A: 3}, {Kind: api.OpAccess, A: 3}, {Kind: api.OpCompute, A: n}, {Kind: 77, A: n}}
		for _, threshold := range []int{1, 9} {
			c := blocks(threshold, 0, l)
			c.Machine.Miss = n
			if got, want := Blocking(c, 0, 1), 3*counts+2; got != want {
				t.Errorf("%d, threshold %d: %d, want %d", n, threshold, got, want)
			}
		}
	}
}

func TestDelay(t *testing.T) {
	c := ranked(5, 1, 9, 3, 5)
	for i, cycles := range []int{10, 20, 400, 15, 800} {
		c.Tasks[i].Program = compute(cycles)
		c.Tasks[i].Threshold = 63
	}
	for i, want := range []uint64{20, 0, 800, 20, 20} { // neither of higher ones, nor of its own Priority, nor of itself
		if got := Delay(c, i); got != want {
			t.Errorf("task %d: %d, want %d", i, got, want)
		}
	}
	c.Tasks[1].Threshold = 1
	for i, want := range []uint64{15, 0, 800, 0, 15} {
		if got := Delay(c, i); got != want {
			t.Errorf("task %d, when nobody is kept by task 1: %d, want %d", i, got, want)
		}
	}
	c.Tasks[1].Float = 12
	for i, want := range []uint64{15, 0, 800, 12, 15} {
		if got := Delay(c, i); got != want {
			t.Errorf("task %d, with a Float: %d, want %d", i, got, want)
		}
	}
}

// anyConfig is one that needn't be one that may be.
func anyConfig(draw func(n int) int) api.Config {
	number := func(usual int) int {
		if draw(14) > 0 {
			return draw(usual)
		}
		return []int{-1, -7, 64, 65, 70, 1 << 32, math.MinInt, math.MaxInt}[draw(8)]
	}
	c := api.Config{Machine: api.Machine{Sets: number(4), Ways: number(4), Hit: number(5), Miss: number(12)}}
	for range draw(4) {
		c.Ceilings = append(c.Ceilings, number(12))
	}
	for range draw(6) {
		t := api.Task{Priority: number(9), Threshold: number(12), Period: number(40), Float: number(6) * draw(2)}
		for range draw(12) {
			t.Program = append(t.Program, api.Op{Kind: draw(api.OpUnlock + 3), A: number(6)})
		}
		c.Tasks = append(c.Tasks, t)
	}
	return c
}

func counted(n int) int64 { return int64(min(max(n, 0), 1<<30)) }

// takes is what an operation takes, not found.
func takes(o api.Op, m api.Machine) int64 {
	switch o.Kind {
	case api.OpCompute:
		return counted(o.A)
	case api.OpAccess:
		return counted(m.Miss)
	}
	return 1
}

// plainLevel goes through a program up to a place.
func plainLevel(c api.Config, task, place int) int {
	locked := map[int]bool{}
	regions := 0
	for _, o := range c.Tasks[task].Program[:place] {
		switch {
		case o.Kind == api.OpEnter:
			regions++
		case o.Kind == api.OpExit && regions > 0:
			regions--
		case o.Kind == api.OpLock && o.A >= 0 && o.A < len(c.Ceilings):
			locked[o.A] = true
		case o.Kind == api.OpUnlock:
			delete(locked, o.A)
		}
	}
	level := c.Tasks[task].Threshold
	for l := range locked {
		level = max(level, c.Ceilings[l])
	}
	if regions > 0 {
		return 64
	}
	return level
}

// plainBlocking tries each row of neighbours, and counts with numbers of any size.
func plainBlocking(c api.Config, lower, task int) uint64 {
	l, priority := c.Tasks[lower].Program, c.Tasks[task].Priority
	var worst, stretch int64
	for _, o := range l {
		worst += takes(o, c.Machine)
	}
	if c.Tasks[lower].Threshold >= priority {
		return uint64(worst)
	}
	for from := range l {
		var sum int64
		for to := from; to < len(l) && max(plainLevel(c, lower, to), plainLevel(c, lower, to+1)) >= priority; to++ {
			sum += takes(l[to], c.Machine)
		}
		stretch = max(stretch, sum)
	}
	kept := big.NewInt(stretch)
	if float := c.Tasks[lower].Float; float > 0 {
		kept.Add(kept, kept).Add(kept, big.NewInt(int64(float)))
	}
	if kept.Cmp(big.NewInt(worst)) > 0 {
		return uint64(worst)
	}
	return kept.Uint64()
}

// plainCount counts with numbers of any size.
func plainCount(c api.Config, task int, window uint64) uint64 {
	sum := new(big.Int)
	whole := func(n uint64) *big.Int { return new(big.Int).SetUint64(n) }
	for _, t := range c.Tasks {
		if t.Priority <= c.Tasks[task].Threshold || window == 0 {
			continue
		}
		if t.Period <= 0 || window == top {
			return top
		}
		q, r := new(big.Int).DivMod(whole(window), big.NewInt(int64(t.Period)), new(big.Int))
		sum.Add(sum, q.Add(q, big.NewInt(int64(r.Sign()))))
	}
	if sum.IsUint64() {
		return sum.Uint64()
	}
	return top
}

func TestOfAnyConfiguration(t *testing.T) {
	draw := drawing(27)
	windows := []uint64{0, 1, 7, 20, 40, 1000, 1 << 24, 1 << 40, 1 << 63, top - 1, top}
	between := 0
	for range 5000 {
		c := anyConfig(draw)
		was := copied(c)
		for i, task := range c.Tasks {
			var lower, higher []int
			var delay uint64
			for other, o := range c.Tasks {
				want := plainBlocking(c, other, i)
				if got := Blocking(c, other, i); got != want {
					t.Fatalf("%v: %d blocks %d for %d, want %d", c, other, i, got, want)
				}
				if want > 0 && o.Threshold < task.Priority {
					between++
				}
				if o.Priority >= task.Priority {
					higher = append(higher, other)
					continue
				}
				lower = append(lower, other)
				delay = max(delay, want)
			}
			if !slices.Equal(Lower(c, i), lower) || !slices.Equal(Higher(c, i), higher) || Delay(c, i) != delay {
				t.Fatalf("%v, task %d: %v, %v, %d, want %v, %v, %d", c, i, Lower(c, i), Higher(c, i), Delay(c, i), lower, higher, delay)
			}
			for _, window := range append(windows, uint64(draw(200))) {
				if got, want := Count(c, i, window), plainCount(c, i, window); got != want {
					t.Fatalf("%v, task %d, window %d: %d, want %d", c, i, window, got, want)
				}
			}
		}
		if !conf.Same(c, was) {
			t.Fatalf("%v is changed: %v", was, c)
		}
	}
	if between < 2000 {
		t.Errorf("only %d are kept below their priority", between)
	}
}

// TestGreaterWindows: none has a lesser count, and what two windows have together is no less than that of both in one.
func TestGreaterWindows(t *testing.T) {
	draw := drawing(10)
	for range 2000 {
		c := below(1+draw(20), 1+draw(20), 1+draw(20))
		a, b := uint64(draw(100)), uint64(draw(100))
		both := Count(c, 0, a+b)
		if both < Count(c, 0, a) || both > Count(c, 0, a)+Count(c, 0, b) {
			t.Fatalf("%v: %d in %d, %d in %d, %d in both", c.Tasks, Count(c, 0, a), a, Count(c, 0, b), b, both)
		}
	}
}

// nested is a program in which regions and locks nest, and are closed at the end.
func nested(draw func(n int) int, ceilings int) []api.Op {
	l := compute(1 + draw(4))
	var ends []api.Op
	locked := 0
	for range draw(12) {
		switch draw(4) {
		case 0:
			l = append(l, api.Op{Kind: api.OpEnter})
			ends = append(ends, api.Op{Kind: api.OpExit})
		case 1:
			if locked < ceilings {
				l = append(l, api.Op{Kind: api.OpLock, A: locked})
				ends = append(ends, api.Op{Kind: api.OpUnlock, A: locked})
				locked++
			}
		case 2:
			if len(ends) > 0 {
				end := ends[len(ends)-1]
				l, ends = append(l, end), ends[:len(ends)-1]
				if end.Kind == api.OpUnlock {
					locked--
				}
			}
		case 3:
			l = append(l, api.Op{Kind: 1 + draw(2), A: 1 + draw(4)})
		}
	}
	slices.Reverse(ends)
	return append(l, ends...)
}

// mayBe is a configuration that may be, of two tasks that nest, and one of the highest priority.
func mayBe(draw func(n int) int) api.Config {
	c := ranked(0, 2, 5)
	for range draw(4) {
		c.Ceilings = append(c.Ceilings, 2+draw(6))
	}
	for i := range 2 {
		c.Tasks[i].Threshold = c.Tasks[i].Priority + draw(4)
		c.Tasks[i].Float = draw(2) * draw(9)
		c.Tasks[i].Program = nested(draw, len(c.Ceilings))
	}
	for i := range c.Tasks {
		c.Tasks[i].Period, c.Tasks[i].Deadline = 900, 900
	}
	return c
}

// ran is a kernel in which each task was released at its tick.
func ran(t *testing.T, c api.Config, at ...int) *kernel.Kernel {
	t.Helper()
	k, e := kernel.New(c)
	if e != api.OK {
		t.Fatalf("%v: %d", c, e)
	}
	for i, tick := range at {
		if e := k.Event(api.Event{At: tick, Kind: api.EventRelease, A: i}); e != api.OK {
			t.Fatalf("%v: %d", c, e)
		}
	}
	k.Run(900)
	return k
}

// TestDelaysOfRuns: whenever it is released, the one of the highest priority waits for no longer than is told, and sometimes as long but for the tick in which it was released.
func TestDelaysOfRuns(t *testing.T) {
	draw := drawing(28)
	reached := 0
	for range 150 {
		c := mayBe(draw)
		delay, waited := Delay(c, 2), 0
		for second := range 12 {
			for third := range 60 {
				for _, r := range ran(t, c, 0, second, third).Reports() {
					if r.Task == 2 {
						waited = max(waited, r.Start-r.Release)
					}
				}
			}
		}
		if uint64(waited) > delay {
			t.Fatalf("%v: it waited for %d, the delay is %d", c, waited, delay)
		}
		if delay > 0 && uint64(waited)+1 == delay {
			reached++
		}
	}
	if reached < 30 {
		t.Errorf("the delay is reached only %d times", reached)
	}
}

// TestCountsOfRuns: if each task comes no sooner than its Period, no job is displaced oftener than is told of the ticks from its release to its end, and some are as often.
func TestCountsOfRuns(t *testing.T) {
	draw := drawing(29)
	reached := 0
	for range 1500 {
		c := mayBe(draw)
		k, e := kernel.New(c)
		if e != api.OK {
			t.Fatalf("%v: %d", c, e)
		}
		for i := range c.Tasks {
			c.Tasks[i].Period = 5 + draw(40)
			for at := draw(10); at < 200; at += c.Tasks[i].Period + draw(4) {
				k.Event(api.Event{At: at, Kind: api.EventRelease, A: i})
			}
		}
		k.Run(5000)
		for _, r := range k.Reports() {
			count := Count(c, r.Task, uint64(r.End-r.Release))
			if uint64(r.Displaced) > count {
				t.Fatalf("%v: %+v, at most %d times", c, r, count)
			}
			if r.Displaced > 0 && uint64(r.Displaced) == count {
				reached++
			}
		}
	}
	if reached < 200 {
		t.Errorf("the count is reached only %d times", reached)
	}
}
