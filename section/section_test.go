package section

import (
	"math"
	"slices"
	"testing"

	"signalbox/api"
	"signalbox/conf"
	"signalbox/cost"
	"signalbox/kernel"
	"signalbox/prog"
)

// drawing is a row of numbers below n that look drawn.
func drawing(seed uint32) func(n int) int {
	return func(n int) int {
		seed = seed*1664525 + 1013904223
		return int(seed>>8) % n
	}
}

// program is a text's, which must be one.
func program(t *testing.T, s string) []api.Op {
	t.Helper()
	l, e := prog.Parse(s)
	if e != api.OK {
		t.Fatalf("%q: %d", s, e)
	}
	return l
}

// one is a configuration of a task with a threshold, and of some ceilings.
func one(threshold int, l []api.Op, ceilings ...int) api.Config {
	return api.Config{
		Machine:  api.Machine{Sets: 1, Ways: 1, Hit: 2, Miss: 9},
		Ceilings: ceilings,
		Tasks:    []api.Task{{Priority: 0, Threshold: threshold, Period: 900, Deadline: 900, Program: l}},
	}
}

// copied is a configuration in new memory.
func copied(c api.Config) api.Config {
	c.Ceilings = slices.Clone(c.Ceilings)
	c.Tasks = slices.Clone(c.Tasks)
	for i := range c.Tasks {
		c.Tasks[i].Program = slices.Clone(c.Tasks[i].Program)
	}
	return c
}

// pairs are those of levels that follow each other.
func pairs(levels ...int) []Pair {
	var l []Pair
	for i := 1; i < len(levels); i++ {
		l = append(l, Pair{levels[i-1], levels[i]})
	}
	return l
}

func TestExample(t *testing.T) {
	c := one(3, program(t, "compute 5;enter;compute 2;exit"))
	if got := Levels(c, 0); !slices.Equal(got, []Pair{{3, 3}, {3, 64}, {64, 64}, {64, 3}}) {
		t.Error(got)
	}
	for level, want := range map[int]int{math.MinInt: 9, 0: 9, 3: 9, 4: 4, 63: 4, 64: 4, 65: 0, math.MaxInt: 0} {
		if got := Longest(c, 0, level); got != want {
			t.Errorf("level %d: %d, want %d", level, got, want)
		}
	}
	if got := Reach(c, 0); !slices.Equal(got, []int{64}) {
		t.Error(got)
	}
}

// walks are programs of a task of threshold 5 with ceilings 9, 3, 20 and 9, with their levels.
func walks() map[string][]int {
	return map[string][]int{
		"compute 1":                       {5, 5},
		"access 3;send 0 1;push 4;pop 2":  {5, 5, 5, 5, 5},
		"recv 0;set 0 1;clear 0 1;give 0": {5, 5, 5, 5, 5},
		"test 0 1;take 0":                 {5, 5, 5},

		"lock 0;compute 1;unlock 0":         {5, 9, 9, 5},
		"lock 1;compute 1;unlock 1":         {5, 5, 5, 5}, // a ceiling below the threshold
		"lock 0;lock 2;unlock 2;unlock 0":   {5, 9, 20, 9, 5},
		"lock 2;lock 0;unlock 0;unlock 2":   {5, 20, 20, 20, 5},
		"lock 0;lock 3;unlock 3;unlock 0":   {5, 9, 9, 9, 5},
		"lock 0;unlock 0;lock 2;unlock 2":   {5, 9, 5, 20, 5},
		"lock 0;lock 2;unlock 0;unlock 2":   {5, 9, 20, 20, 5}, // in another order
		"lock 2;lock 0;unlock 2;unlock 0":   {5, 20, 20, 9, 5},
		"lock 0;lock 0;compute 1;unlock 0":  {5, 9, 9, 9, 5}, // it is locked once
		"lock 0;lock 0;unlock 0;unlock 0":   {5, 9, 9, 5, 5},
		"unlock 0;lock 0;unlock 2;unlock 0": {5, 5, 9, 9, 5}, // one that isn't locked
		"lock 0;lock 3;unlock 0;compute 1":  {5, 9, 9, 9, 9}, // like ceilings are two
		"lock 0;compute 1":                  {5, 9, 9},       // it stays locked
		"lock 4;compute 1;unlock 4":         {5, 5, 5, 5},    // there are four
		"lock 0;unlock 4;lock 4;unlock 0":   {5, 9, 9, 9, 5},

		"enter;exit":                        {5, 64, 5},
		"enter;enter;exit;compute 1;exit":   {5, 64, 64, 64, 64, 5},
		"enter;exit;enter;exit":             {5, 64, 5, 64, 5},
		"exit;compute 1":                    {5, 5, 5}, // without a region
		"exit;enter;exit;exit":              {5, 5, 64, 5, 5},
		"exit;exit;enter;compute 1":         {5, 5, 5, 64, 64},
		"enter;lock 0;exit;unlock 0":        {5, 64, 64, 9, 5}, // what is locked in a region is locked behind it
		"lock 2;enter;exit;unlock 2":        {5, 20, 64, 20, 5},
		"lock 2;enter;unlock 2;compute 1":   {5, 20, 64, 64, 64},
		"lock 2;enter;unlock 2;exit":        {5, 20, 64, 64, 5},
		"enter;lock 1;exit;unlock 1":        {5, 64, 64, 5, 5},
		"enter;compute 1;lock 2;compute 1":  {5, 64, 64, 64, 64},
		"enter;exit;lock 2;compute 1;enter": {5, 64, 5, 20, 20, 64},
	}
}

func TestLevels(t *testing.T) {
	for s, want := range walks() {
		c := one(5, program(t, s), 9, 3, 20, 9)
		was := copied(c)
		if got := Levels(c, 0); !slices.Equal(got, pairs(want...)) {
			t.Errorf("%q: %v, want %v", s, got, pairs(want...))
		}
		if !conf.Same(c, was) {
			t.Errorf("%q: %v is changed: %v", s, was, c)
		}
	}
}

// TestLevelsOfWrongNumbers: operations of other kinds, and ceilings by numbers that there aren't, change nothing.
func TestLevelsOfWrongNumbers(t *testing.T) {
	for _, n := range []int{math.MinInt, -1 << 32, -2, -1, 2, 3, 1 << 32, math.MaxInt} {
		l := []api.Op{{Kind: api.OpLock, A: n}, {Kind: api.OpLock, A: 1}, {Kind: api.OpUnlock, A: n}, {Kind: api.OpUnlock, A: 1}}
		if got := Levels(one(5, l, 9, 20), 0); !slices.Equal(got, pairs(5, 5, 20, 20, 5)) {
			t.Errorf("ceiling %d: %v", n, got)
		}
		if got := Levels(one(5, l), 0); !slices.Equal(got, pairs(5, 5, 5, 5, 5)) {
			t.Errorf("ceiling %d of none: %v", n, got)
		}
	}
	for _, kind := range []int{math.MinInt, -1, 0, 16, 1<<32 + 3, math.MaxInt} {
		for _, first := range []int{api.OpEnter, api.OpLock} {
			l := []api.Op{{Kind: kind}, {Kind: first}, {Kind: kind}}
			level := map[int]int{api.OpEnter: 64, api.OpLock: 20}[first]
			if got := Levels(one(5, l, 20), 0); !slices.Equal(got, pairs(5, 5, level, level)) {
				t.Errorf("kind %d: %v", kind, got)
			}
		}
	}
	l := []api.Op{{Kind: api.OpEnter, A: 7, B: 7}, {Kind: api.OpLock, A: 0, B: 7}, {Kind: api.OpExit, A: 7, B: 7}, {Kind: api.OpUnlock, A: 0, B: 9}}
	if got := Levels(one(5, l, 20), 0); !slices.Equal(got, pairs(5, 64, 64, 20, 5)) {
		t.Error(got)
	}
}

// TestLevelsOfAnyThreshold: whatever it is, an open region's level is MaxLevel.
func TestLevelsOfAnyThreshold(t *testing.T) {
	l := program(t, "lock 0;enter;lock 1;exit;unlock 1;unlock 0")
	for _, c := range []struct {
		threshold, first, second int
		want                     []Pair
		reach                    []int
	}{
		{0, 0, 0, pairs(0, 0, 64, 64, 0, 0, 0), []int{64}},
		{-3, -1, -2, pairs(-3, -1, 64, 64, -1, -1, -3), []int{-1, 64}},
		{math.MinInt, math.MinInt, -5, pairs(math.MinInt, math.MinInt, 64, 64, -5, math.MinInt, math.MinInt), []int{-5, 64}},
		{63, 63, 63, pairs(63, 63, 64, 64, 63, 63, 63), []int{64}},
		{64, 63, 63, pairs(64, 64, 64, 64, 64, 64, 64), nil},
		{70, 80, 90, pairs(70, 80, 64, 64, 90, 80, 70), []int{80, 90}},
		{99, 80, 90, pairs(99, 99, 64, 64, 99, 99, 99), nil},
		{5, 90, 70, pairs(5, 90, 64, 64, 90, 90, 5), []int{64, 90}},
		{math.MaxInt, 1, 2, pairs(math.MaxInt, math.MaxInt, 64, 64, math.MaxInt, math.MaxInt, math.MaxInt), nil},
		{1, math.MaxInt, math.MinInt, pairs(1, math.MaxInt, 64, 64, math.MaxInt, math.MaxInt, 1), []int{64, math.MaxInt}},
	} {
		config := one(c.threshold, l, c.first, c.second)
		if got := Levels(config, 0); !slices.Equal(got, c.want) {
			t.Errorf("%+v: levels %v", c, got)
		}
		if got := Reach(config, 0); !slices.Equal(got, c.reach) {
			t.Errorf("%+v: reach %v", c, got)
		}
	}
}

func TestOfNoTask(t *testing.T) {
	for _, c := range []api.Config{{}, {Ceilings: []int{4}}, one(1, program(t, "enter;exit"))} {
		count := len(c.Tasks)
		for _, i := range []int{math.MinInt, -1 << 32, -2, -1, count, count + 1, 8, 1 << 32, math.MaxInt} {
			if len(Levels(c, i)) != 0 || Longest(c, i, 0) != 0 || Longest(c, i, math.MinInt) != 0 || len(Reach(c, i)) != 0 {
				t.Errorf("%v, task %d: %v, %d, %v", c, i, Levels(c, i), Longest(c, i, 0), Reach(c, i))
			}
		}
	}
}

func TestOfNoProgram(t *testing.T) {
	for _, l := range [][]api.Op{nil, {}} {
		c := one(7, l, 9)
		if len(Levels(c, 0)) != 0 || Longest(c, 0, 0) != 0 || Longest(c, 0, 7) != 0 || len(Reach(c, 0)) != 0 {
			t.Errorf("%v, %d, %v", Levels(c, 0), Longest(c, 0, 0), Reach(c, 0))
		}
	}
}

// TestOfOneOfSome: each task has its own threshold and program, and none holds what another one locks.
func TestOfOneOfSome(t *testing.T) {
	c := one(2, program(t, "lock 0;compute 3"), 9)
	c.Tasks = append(c.Tasks, api.Task{Threshold: 4, Program: program(t, "lock 0;compute 7;unlock 0;compute 8")}, api.Task{Threshold: 6, Program: program(t, "compute 5")})
	for i, want := range []struct {
		levels  []Pair
		longest int
		reach   []int
	}{
		{pairs(2, 9, 9), 4, []int{9}},
		{pairs(4, 9, 9, 4, 4), 9, []int{9}},
		{pairs(6, 6), 0, nil},
	} {
		if !slices.Equal(Levels(c, i), want.levels) || Longest(c, i, 7) != want.longest || !slices.Equal(Reach(c, i), want.reach) {
			t.Errorf("task %d: %v, %d, %v", i, Levels(c, i), Longest(c, i, 7), Reach(c, i))
		}
	}
}

func TestLongest(t *testing.T) {
	for _, c := range []struct {
		text        string
		level, want int
	}{
		{"compute 5", 5, 5},
		{"compute 5", 6, 0},
		{"compute 5;access 1;access 1;send 0 1", 5, 24}, // no access is found
		{"compute 5;enter;access 1;access 1;exit;compute 9", 64, 20},
		{"lock 0;compute 4;unlock 0", 9, 6},
		{"lock 0;compute 4;unlock 0", 8, 6},
		{"lock 0;compute 4;unlock 0", 10, 0},
		{"lock 0;compute 4;lock 2;compute 2;unlock 2;unlock 0", 9, 10},
		{"lock 0;compute 4;lock 2;compute 2;unlock 2;unlock 0", 10, 4},
		{"lock 0;compute 4;lock 2;compute 2;unlock 2;unlock 0", 20, 4},
		{"lock 0;compute 4;lock 2;compute 2;unlock 2;unlock 0", 21, 0},
		{"enter;exit;compute 1;enter;compute 2;exit;compute 1;enter;compute 1;exit", 64, 4}, // neither the first nor the last one
		{"enter;compute 9;exit;compute 50;enter;exit", 64, 11},
		{"enter;exit;compute 50;enter;compute 9;exit", 64, 11},
		{"enter;compute 2;exit;enter;compute 3;exit", 64, 9}, // neighbours, though the level is lower between them
		{"lock 0;compute 2;unlock 0;enter;compute 3;exit", 9, 9},
		{"lock 0;compute 2;unlock 0;enter;compute 3;exit", 10, 5},
		{"enter;compute 2;exit;send 0 1;enter;compute 3;exit", 64, 5},
		{"enter;compute 7", 64, 8}, // up to the end
		{"exit;compute 7", 64, 0},
		{"compute 7;enter", 64, 1},
		{"enter;enter;exit;compute 7;exit;compute 30", 64, 11},
		{"lock 1;compute 7;unlock 1", 6, 0},
		{"lock 4;compute 7;unlock 4", 6, 0},
	} {
		if got := Longest(one(5, program(t, c.text), 9, 3, 20, 9), 0, c.level); got != c.want {
			t.Errorf("%+v: %d", c, got)
		}
	}
}

// TestLongestByLayer9: operations take what that layer tells, of whatever numbers.
func TestLongestByLayer9(t *testing.T) {
	for n, counts := range map[int]int{math.MinInt: 0, -1: 0, 0: 0, 1: 1, 101: 101, 1 << 30: 1 << 30, 1<<30 + 1: 1 << 30, math.MaxInt: 1 << 30} {
		c := one(1, []api.Op{{Kind: api.OpCompute, A: n}, {Kind: api.OpCompute, A: n}, {Kind: 77, A: n}})
		if got := Longest(c, 0, 1); got != 2*counts+1 {
			t.Errorf("computes of %d: %d", n, got)
		}
		c = one(1, []api.Op{{Kind: api.OpAccess, A: n}, {Kind: api.OpAccess, A: n}})
		if got := Longest(c, 0, 1); got != 18 {
			t.Errorf("accesses to %d: %d", n, got)
		}
		c.Machine.Miss = n
		if got := Longest(c, 0, 1); got != 2*counts {
			t.Errorf("a Miss of %d: %d", n, got)
		}
	}
	c := one(1, []api.Op{{Kind: api.OpCompute}})
	if Longest(c, 0, 1) != 0 {
		t.Error(Longest(c, 0, 1))
	}
}

func TestReach(t *testing.T) {
	for s, want := range map[string][]int{
		"compute 5":                         nil,
		"lock 1;unlock 1":                   nil,
		"lock 0;unlock 0":                   {9},
		"lock 0;lock 3;unlock 3;unlock 0":   {9},
		"lock 0;lock 2;unlock 2;unlock 0":   {9, 20},
		"lock 2;lock 0;unlock 0;unlock 2":   {20}, // 9 never comes
		"lock 2;unlock 2;lock 0;unlock 0":   {9, 20},
		"enter;lock 2;unlock 2;exit":        {64},
		"enter;exit;lock 2;lock 1;unlock 1": {20, 64},
		"enter;lock 2;exit;unlock 2;lock 0": {9, 20, 64},
		"compute 1;lock 0":                  {9}, // behind the last one alone
		"exit;compute 1":                    nil,
	} {
		c := one(5, program(t, s), 9, 3, 20, 9)
		for range 2 {
			got := Reach(c, 0)
			if !slices.Equal(got, want) {
				t.Errorf("%q: %v, want %v", s, got, want)
			}
			clear(got) // which the next call doesn't see
		}
	}
	if got := Reach(one(9, program(t, "lock 0;compute 1;unlock 0;enter;exit"), 9), 0); !slices.Equal(got, []int{64}) {
		t.Error(got)
	}
}

func TestLevelsAreNewMemory(t *testing.T) {
	c := one(5, program(t, "enter;exit"))
	clear(Levels(c, 0))
	if got := Levels(c, 0); !slices.Equal(got, pairs(5, 64, 5)) {
		t.Error(got)
	}
}

// anyConfig is one that needn't be one that may be.
func anyConfig(draw func(n int) int) api.Config {
	number := func(usual int) int {
		if draw(12) > 0 {
			return draw(usual)
		}
		return []int{-1, -7, 64, 65, 70, 1 << 32, math.MinInt, math.MaxInt}[draw(8)]
	}
	c := api.Config{Machine: api.Machine{Hit: draw(9), Miss: draw(9)}}
	for range draw(5) {
		c.Ceilings = append(c.Ceilings, number(12))
	}
	for range 1 + draw(2) {
		t := api.Task{Threshold: number(8)}
		for range draw(16) {
			o := api.Op{Kind: draw(api.OpUnlock + 3), A: number(5)}
			if o.Kind == api.OpCompute {
				o.A = draw(9)
			}
			t.Program = append(t.Program, o)
		}
		c.Tasks = append(c.Tasks, t)
	}
	return c
}

// plainLevel goes through a program up to a place.
func plainLevel(c api.Config, i, place int) int {
	locked := map[int]bool{}
	regions := 0
	for _, o := range c.Tasks[i].Program[:place] {
		switch {
		case o.Kind == api.OpEnter:
			regions++
		case o.Kind == api.OpExit && regions > 0:
			regions--
		case o.Kind == api.OpLock && o.A >= 0 && o.A < len(c.Ceilings):
			locked[o.A] = true
		case o.Kind == api.OpUnlock:
			delete(locked, o.A)
		}
	}
	level := c.Tasks[i].Threshold
	for l := range locked {
		level = max(level, c.Ceilings[l])
	}
	if regions > 0 {
		return 64
	}
	return level
}

// plainLongest tries each row of neighbours.
func plainLongest(c api.Config, i, level int) int {
	longest := 0
	l := c.Tasks[i].Program
	for from := range l {
		for to := from + 1; to <= len(l); to++ {
			if plainLevel(c, i, to-1) < level && plainLevel(c, i, to) < level {
				break
			}
			longest = max(longest, cost.Worst(l[from:to], c.Machine))
		}
	}
	return longest
}

func TestOfAnyConfiguration(t *testing.T) {
	draw := drawing(24)
	for range 5000 {
		c := anyConfig(draw)
		was := copied(c)
		for i, task := range c.Tasks {
			levels := []int{task.Threshold}
			var reach []int
			for place := range task.Program {
				level := plainLevel(c, i, place+1)
				levels = append(levels, level)
				if level > task.Threshold && !slices.Contains(reach, level) {
					reach = append(reach, level)
				}
			}
			slices.Sort(reach)
			if got := Levels(c, i); !slices.Equal(got, pairs(levels...)) {
				t.Fatalf("%v, task %d: levels %v, want %v", c, i, got, levels)
			}
			if got := Reach(c, i); !slices.Equal(got, reach) {
				t.Fatalf("%v, task %d: reach %v, want %v", c, i, got, reach)
			}
			for _, level := range append(levels, -1, 5, 6, 7, 8, 9, 63, 64, 65) {
				if got := Longest(c, i, level); got != plainLongest(c, i, level) {
					t.Fatalf("%v, task %d, level %d: %d, want %d", c, i, level, got, plainLongest(c, i, level))
				}
			}
		}
		if !conf.Same(c, was) {
			t.Fatalf("%v is changed: %v", was, c)
		}
	}
}

// TestHigherIsNoLonger: from the lowest level up to the highest, the longest stretch is never longer than the one ahead.
func TestHigherIsNoLonger(t *testing.T) {
	draw := drawing(2)
	shorter := 0
	for range 5000 {
		c := anyConfig(draw)
		for i, task := range c.Tasks {
			last := cost.Worst(task.Program, c.Machine)
			if got := Longest(c, i, math.MinInt); got != last {
				t.Fatalf("%v, task %d: %d, all of it takes %d", c, i, got, last)
			}
			for level := -9; level < 80; level++ {
				got := Longest(c, i, level)
				if got > last {
					t.Fatalf("%v, task %d: %d of level %d, %d of that below", c, i, got, level, last)
				}
				if got < last {
					shorter++
				}
				last = got
			}
		}
	}
	if shorter < 5000 {
		t.Errorf("only %d are shorter", shorter)
	}
}

// nested is a program in which regions and locks nest, and are closed at the end.
func nested(draw func(n int) int, ceilings int) []api.Op {
	l := []api.Op{{Kind: api.OpCompute, A: 1 + draw(4)}}
	var ends []api.Op
	locked := 0
	for range draw(14) {
		switch draw(4) {
		case 0:
			l = append(l, api.Op{Kind: api.OpEnter})
			ends = append(ends, api.Op{Kind: api.OpExit})
		case 1:
			if locked < ceilings {
				l = append(l, api.Op{Kind: api.OpLock, A: locked})
				ends = append(ends, api.Op{Kind: api.OpUnlock, A: locked})
				locked++
			}
		case 2:
			if len(ends) > 0 {
				end := ends[len(ends)-1]
				l, ends = append(l, end), ends[:len(ends)-1]
				if end.Kind == api.OpUnlock {
					locked--
				}
			}
		case 3:
			l = append(l, api.Op{Kind: 1 + draw(2), A: 1 + draw(4)})
		}
	}
	slices.Reverse(ends)
	return append(l, ends...)
}

// mayBe is a configuration that may be, of a task that nests, and one of a higher priority.
func mayBe(draw func(n int) int) api.Config {
	c := one(draw(4), nil)
	for range draw(4) {
		c.Ceilings = append(c.Ceilings, draw(9))
	}
	c.Tasks[0].Program = nested(draw, len(c.Ceilings))
	c.Tasks = append(c.Tasks, api.Task{Priority: 4 + draw(4), Threshold: 63, Period: 900, Deadline: 900, Program: []api.Op{{Kind: api.OpCompute, A: 1}}})
	return c
}

// released is a kernel in which each task is released at its tick.
func released(t *testing.T, c api.Config, at ...int) *kernel.Kernel {
	t.Helper()
	k, e := kernel.New(c)
	if e != api.OK {
		t.Fatalf("%v: %d", c, e)
	}
	for i, tick := range at {
		if e := k.Event(api.Event{At: tick, Kind: api.EventRelease, A: i}); e != api.OK {
			t.Fatalf("%v: %d", c, e)
		}
	}
	return k
}

// TestLevelsOfRuns: behind each tick of an operation, the top's level is the one behind it; ahead of its first tick, the one ahead.
func TestLevelsOfRuns(t *testing.T) {
	draw := drawing(18)
	for range 500 {
		c := mayBe(draw)
		k := released(t, c, 0)
		from := k.Cache()
		now := 0
		for i, p := range Levels(c, 0) {
			o := c.Tasks[0].Program[i]
			if _, level, ok := k.Top(); ok != (i > 0) || ok && level != p.Ahead {
				t.Fatalf("%v: %d ahead of operation %d, want %v", c, level, i, p)
			}
			hit := false
			if o.Kind == api.OpAccess {
				hit, _ = from.Access(o.A)
			}
			for range cost.Of(o, c.Machine, hit) {
				now++
				k.Run(now)
				if _, level, ok := k.Top(); ok && level != p.Behind {
					t.Fatalf("%v: %d behind operation %d, want %v", c, level, i, p)
				}
			}
		}
		if _, _, ok := k.Top(); ok {
			t.Fatalf("%v: it isn't over at %d", c, now)
		}
	}
}

// TestStretchesOfRuns: whenever it is released, a task of a higher priority that isn't above the level of a stretch waits no longer than the longest one takes, and waits sometimes as long but for the tick in which the stretch begins.
func TestStretchesOfRuns(t *testing.T) {
	draw := drawing(30)
	reached := 0
	for range 300 {
		c := mayBe(draw)
		longest := Longest(c, 0, c.Tasks[1].Priority)
		waited := 0
		for at := range cost.Worst(c.Tasks[0].Program, c.Machine) + 2 {
			k := released(t, c, 0, at)
			k.Run(2000)
			for _, r := range k.Reports() {
				if r.Task == 1 {
					waited = max(waited, r.Start-r.Release)
				}
			}
		}
		if waited > longest {
			t.Fatalf("%v: it waited for %d, the longest stretch is %d", c, waited, longest)
		}
		if longest > 0 && waited == longest-1 {
			reached++
		}
	}
	if reached < 100 {
		t.Errorf("the stretch is reached only %d times", reached)
	}
}
