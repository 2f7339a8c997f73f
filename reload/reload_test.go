package reload

import (
	"math"
	"slices"
	"testing"

	"signalbox/api"
	"signalbox/cache"
	"signalbox/conf"
	"signalbox/cost"
	"signalbox/kernel"
)

// drawing is a row of numbers below n that look drawn.
func drawing(seed uint32) func(n int) int {
	return func(n int) int {
		seed = seed*1664525 + 1013904223
		return int(seed>>8) % n
	}
}

// accesses is a program of nothing else.
func accesses(blocks ...int) []api.Op {
	var l []api.Op
	for _, block := range blocks {
		l = append(l, api.Op{Kind: api.OpAccess, A: block})
	}
	return l
}

// task is one of a priority and a threshold, with a program.
func task(priority, threshold int, program []api.Op) api.Task {
	return api.Task{Priority: priority, Threshold: threshold, Period: 90, Deadline: 90, Program: program}
}

// two are a task that accesses these, and one above it that accesses others.
func two(m api.Machine, blocks, others []int) api.Config {
	return api.Config{Machine: m, Tasks: []api.Task{task(1, 1, accesses(blocks...)), task(2, 2, accesses(others...))}}
}

// copied is a configuration in new memory.
func copied(c api.Config) api.Config {
	c.Tasks = slices.Clone(c.Tasks)
	for i := range c.Tasks {
		c.Tasks[i].Program = slices.Clone(c.Tasks[i].Program)
	}
	c.Ceilings = slices.Clone(c.Ceilings)
	return c
}

// noTasks are numbers of tasks that there aren't, of so many.
func noTasks(count int) []int {
	return []int{math.MinInt, -1 << 32, -2, -1, count, count + 1, 8, 1 << 32, math.MaxInt}
}

// noSets are numbers of sets that no cache has.
func noSets() []int {
	return []int{math.MinInt, -1 << 32, -16, -1, 0, 17, 18, 1 << 32, 1<<32 + 1, math.MaxInt}
}

func TestExample(t *testing.T) {
	m := api.Machine{Sets: 2, Ways: 1, Hit: 2, Miss: 9}
	for _, c := range []struct{ others, want []int }{
		{[]int{7, 4}, []int{1, 7}}, // both sets
		{[]int{7}, []int{1, 7}},    // the one that has all blocks
		{[]int{4}, []int{0, 0}},
		{nil, []int{0, 0}},
	} {
		config := two(m, []int{1, 3, 5}, c.others)
		if b, k := Bound(config, 0), Cost(config, 0); b != c.want[0] || k != c.want[1] {
			t.Errorf("%v: Bound %d, Cost %d, want %v", c.others, b, k, c.want)
		}
	}
}

func TestLoads(t *testing.T) {
	for _, c := range []struct {
		sets   int
		blocks []int
		want   []int
	}{
		{1, nil, []int{0}},
		{3, nil, []int{0, 0, 0}},
		{1, []int{0}, []int{1}},
		{1, []int{7, 7, 7}, []int{1}},
		{1, []int{7, 3, 7, 255, 3, 0}, []int{4}},
		{2, []int{1, 3, 5}, []int{0, 3}},
		{2, []int{5, 4, 3, 4, 5, 0}, []int{2, 2}},
		{4, []int{0, 4, 8, 1, 3, 255, 4}, []int{3, 1, 0, 2}},
		{16, []int{15, 16, 31, 255, 0}, []int{2, 0, 0, 0, 0, 0, 0, 0, 0, 0, 0, 0, 0, 0, 0, 3}},
		{2, []int{-1, -2, math.MinInt, 6}, []int{1, 0}}, // those below 0 aren't looked at
		{1, []int{-1}, []int{0}},
		{3, []int{256, 257, 258, 1 << 32, 255}, []int{2, 2, 1}}, // those above MaxBlock are
		{2, []int{math.MaxInt, math.MaxInt - 1, math.MaxInt}, []int{1, 1}},
	} {
		l := accesses(c.blocks...)
		if got := Loads(l, api.Machine{Sets: c.sets}); !slices.Equal(got, c.want) {
			t.Errorf("%d sets, %v: %v, want %v", c.sets, c.blocks, got, c.want)
		}
		if !slices.Equal(l, accesses(c.blocks...)) {
			t.Errorf("%v is changed: %v", c.blocks, l)
		}
	}
}

func TestLoadsOfNoSets(t *testing.T) {
	for _, sets := range noSets() {
		m := api.Machine{Sets: sets, Ways: 2, Hit: 1, Miss: 9}
		for _, l := range [][]api.Op{nil, accesses(0), accesses(1, 2, -1, 256)} {
			if got := Loads(l, m); len(got) != 0 {
				t.Errorf("%d sets, %v: %v", sets, l, got)
			}
		}
		c := two(m, []int{1, 2}, []int{1, 2})
		if len(Touched(c, []int{0, 1})) != 0 || Bound(c, 0) != 0 || Cost(c, 0) != 0 {
			t.Errorf("%d sets: %v, %d, %d", sets, Touched(c, []int{0, 1}), Bound(c, 0), Cost(c, 0))
		}
	}
}

// TestLoadsOfAccessesAlone: no other operation has a block, and no other number of an access is one.
func TestLoadsOfAccessesAlone(t *testing.T) {
	var l []api.Op
	for kind := -1; kind <= api.OpKinds+1; kind++ {
		l = append(l, api.Op{Kind: kind, A: 10 + kind, B: 7})
	}
	if got := Loads(l, api.Machine{Sets: 16}); got[12] != 1 || !slices.Equal(slices.Concat(got[:12], got[13:]), make([]int, 15)) {
		t.Error(got)
	}
}

// TestLoadsHangOnTheSets: on nothing else of the machine.
func TestLoadsHangOnTheSets(t *testing.T) {
	for _, n := range []int{math.MinInt, -1, 0, 1, 4, 5, 100, math.MaxInt} {
		m := api.Machine{Sets: 2, Ways: n, Hit: n, Miss: n}
		if got := Loads(accesses(1, 3, 5, 7, 9, 2), m); !slices.Equal(got, []int{1, 5}) {
			t.Errorf("%v: %v", m, got)
		}
	}
}

func TestAbove(t *testing.T) {
	c := api.Config{Tasks: []api.Task{
		task(1, 1, nil), task(9, 9, nil), task(5, 8, nil), task(4, 63, nil), task(2, 4, nil), task(8, 8, nil), task(63, 63, nil),
		task(5, 3, nil), // above itself, as its Priority is above its Threshold
		task(0, -1, nil), task(-7, -8, nil), task(math.MinInt, math.MaxInt, nil), task(math.MaxInt, math.MinInt, nil),
	}}
	for i, want := range [][]int{
		{1, 2, 3, 4, 5, 6, 7, 11}, {6, 11}, {1, 6, 11}, {11}, {1, 2, 5, 6, 7, 11}, {1, 6, 11}, {11},
		{1, 2, 3, 5, 6, 7, 11}, {0, 1, 2, 3, 4, 5, 6, 7, 8, 11}, {0, 1, 2, 3, 4, 5, 6, 7, 8, 9, 11}, nil, {0, 1, 2, 3, 4, 5, 6, 7, 8, 9, 11},
	} {
		if got := Above(c, i); !slices.Equal(got, want) {
			t.Errorf("above %d: %v, want %v", i, got, want)
		}
	}
}

func TestOfNoTask(t *testing.T) {
	m := api.Machine{Sets: 2, Ways: 2, Hit: 1, Miss: 9}
	for _, c := range []api.Config{{}, {Machine: m}, two(m, []int{1, 2}, []int{1, 2})} {
		for _, i := range noTasks(len(c.Tasks)) {
			if len(Above(c, i)) != 0 || Bound(c, i) != 0 || Cost(c, i) != 0 {
				t.Errorf("%v, task %d: %v, %d, %d", c, i, Above(c, i), Bound(c, i), Cost(c, i))
			}
		}
	}
}

func TestTouched(t *testing.T) {
	c := api.Config{Machine: api.Machine{Sets: 4}, Tasks: []api.Task{
		task(1, 1, accesses(0, 4, 8)), task(2, 2, accesses(5, 3)), task(3, 3, nil), task(4, 4, accesses(-1, -2)),
		task(5, 5, []api.Op{{Kind: api.OpCompute, A: 2}, {Kind: api.OpSend, A: 2, B: 2}}), task(6, 6, accesses(258)),
	}}
	for _, x := range []struct {
		tasks []int
		want  []bool
	}{
		{nil, make([]bool, 4)},
		{[]int{}, make([]bool, 4)},
		{[]int{0}, []bool{true, false, false, false}},
		{[]int{1}, []bool{false, true, false, true}},
		{[]int{1, 0, 1, 1}, []bool{true, true, false, true}},
		{[]int{0, 2}, []bool{true, false, false, false}}, // one that touches nothing takes nothing away
		{[]int{2, 3, 4}, make([]bool, 4)},
		{[]int{5}, []bool{false, false, true, false}},
		{noTasks(6), make([]bool, 4)},
		{append(noTasks(6), 1), []bool{false, true, false, true}},
		{[]int{0, 1, 2, 3, 4, 5}, []bool{true, true, true, true}},
	} {
		before := slices.Clone(x.tasks)
		if got := Touched(c, x.tasks); !slices.Equal(got, x.want) {
			t.Errorf("%v: %v, want %v", x.tasks, got, x.want)
		}
		if !slices.Equal(x.tasks, before) {
			t.Errorf("%v is changed: %v", before, x.tasks)
		}
	}
	for _, l := range [][]int{nil, {0, 1}} {
		if got := Touched(api.Config{Machine: c.Machine}, l); !slices.Equal(got, make([]bool, 4)) {
			t.Errorf("%v of no tasks: %v", l, got)
		}
	}
}

func TestBound(t *testing.T) {
	for _, c := range []struct {
		sets, ways     int
		blocks, others []int
		want           int
	}{
		{1, 1, []int{0}, []int{1}, 1},
		{1, 1, []int{0}, nil, 0},
		{1, 1, nil, []int{0}, 0},
		{1, 4, []int{1, 2, 3}, []int{9}, 3},
		{1, 3, []int{1, 2, 3}, []int{9}, 3},
		{1, 2, []int{1, 2, 3}, []int{9}, 2},
		{1, 2, []int{1, 1, 1}, []int{1}, 1}, // also those that are the same
		{2, 2, []int{0, 2, 4, 1}, []int{0, 1}, 3},
		{2, 2, []int{0, 2, 4, 1}, []int{0, 2, 4, 6}, 2},
		{2, 2, []int{0, 2, 4, 1}, []int{1}, 1},
		{4, 1, []int{0, 1, 2, 3, 4}, []int{0, 2, 3}, 3},
		{16, 4, []int{0, 16, 32, 48, 64, 15}, []int{16, 31}, 5},
		{2, 2, []int{-1, -3, 2}, []int{-1, 0, -5}, 1},
		{2, 9, []int{256, 258, 260}, []int{256}, 3},
		{1, math.MaxInt, []int{1, 2, 3}, []int{9}, 3},
		{1, 0, []int{1, 2, 3}, []int{9}, 0},
		{1, -2, []int{1, 2, 3}, []int{9}, -2}, // the lesser, even so
		{4, -2, []int{1, 2, 3}, []int{0, 1, 2}, -6},
		{4, -2, nil, []int{0, 1, 2}, -6},
		{4, -2, []int{1, 2, 3}, nil, 0},
		{1, math.MinInt, []int{1}, []int{2}, math.MinInt},
	} {
		config := two(api.Machine{Sets: c.sets, Ways: c.ways, Hit: 1, Miss: 2}, c.blocks, c.others)
		if got := Bound(config, 0); got != c.want {
			t.Errorf("%+v: %d", c, got)
		}
		if got := Cost(config, 0); got != c.want {
			t.Errorf("%+v: a Cost of %d", c, got)
		}
		if got := Bound(config, 1); got != 0 {
			t.Errorf("%+v: nobody is above, yet %d", c, got)
		}
	}
}

// TestBoundOfThoseAbove: those that aren't above touch nothing that counts.
func TestBoundOfThoseAbove(t *testing.T) {
	c := api.Config{Machine: api.Machine{Sets: 4, Ways: 2, Hit: 1, Miss: 11}, Tasks: []api.Task{
		task(3, 5, accesses(0, 1, 2, 3, 4, 8)),
		task(1, 1, accesses(0)), task(4, 9, accesses(1)), task(5, 5, accesses(2)),
		task(6, 6, accesses(3)), task(7, 7, accesses(4, 7)),
	}}
	for i, want := range []int{3, 1, 0, 0, 1, 0} {
		if Bound(c, i) != want || Cost(c, i) != 10*want {
			t.Errorf("task %d: Bound %d, Cost %d, want %d", i, Bound(c, i), Cost(c, i), want)
		}
	}
	c.Tasks[0].Threshold = 6
	if Bound(c, 0) != 3 {
		t.Error(Bound(c, 0))
	}
	c.Tasks[0].Threshold = 7
	if Bound(c, 0) != 0 || Cost(c, 0) != 0 {
		t.Error(Bound(c, 0), Cost(c, 0))
	}
}

func TestCost(t *testing.T) {
	for _, c := range []struct{ ways, hit, miss, want int }{
		{4, 1, 9, 24},
		{4, 0, 1, 3},
		{2, 1, 9, 16},
		{4, 5, 5, 0},
		{4, 9, 1, 0},
		{4, 0, 100, 300},
		{4, 0, 101, 300}, // each counts as MaxCost at most, and as 0 at least
		{4, 0, math.MaxInt, 300},
		{4, -1, 100, 300},
		{4, math.MinInt, 100, 300},
		{4, math.MinInt, math.MaxInt, 300},
		{4, math.MaxInt, math.MinInt, 0},
		{4, 99, 1 << 32, 3},
		{4, 100, 1 << 32, 0},
		{4, 1 << 32, math.MaxInt, 0},
		{4, -9, -1, 0},
		{4, -9, 1, 3},
		{0, 1, 9, 0},
		{-2, 1, 9, -16}, // below 0, too
		{-2, 9, 1, 0},
		{-1, 0, 101, -100},
	} {
		config := two(api.Machine{Sets: 1, Ways: c.ways, Hit: c.hit, Miss: c.miss}, []int{1, 2, 3}, []int{9})
		if got := Cost(config, 0); got != c.want {
			t.Errorf("%+v: %d", c, got)
		}
	}
}

func TestNothingIsSharedOrChanged(t *testing.T) {
	c := two(api.Machine{Sets: 2, Ways: 2, Hit: 1, Miss: 9}, []int{5, 1, 5, 0}, []int{1, 0})
	was := copied(c)
	for range 2 {
		loads, above, touched := Loads(c.Tasks[0].Program, c.Machine), Above(c, 0), Touched(c, []int{1})
		if !slices.Equal(loads, []int{1, 2}) || !slices.Equal(above, []int{1}) || !slices.Equal(touched, []bool{true, true}) || Bound(c, 0) != 3 || Cost(c, 0) != 24 {
			t.Error(loads, above, touched, Bound(c, 0), Cost(c, 0))
		}
		loads[0], above[0], touched[0] = 77, 77, false // which the next calls don't see
	}
	if !conf.Same(c, was) {
		t.Errorf("%v is changed: %v", was, c)
	}
}

// anyNumber is one of these, the last ones seldom.
func anyNumber(draw func(n int) int, usual int) int {
	if draw(8) > 0 {
		return draw(usual)
	}
	far := []int{-1, -2, -9, 256, 300, 1 << 32, -1 << 32, math.MaxInt}
	return far[draw(len(far))]
}

// anyConfig is one that needn't be one that may be.
func anyConfig(draw func(n int) int) api.Config {
	c := api.Config{Machine: api.Machine{Sets: anyNumber(draw, 18), Ways: anyNumber(draw, 6), Hit: anyNumber(draw, 120), Miss: anyNumber(draw, 120)}}
	if draw(4) > 0 {
		c.Machine.Sets = 1 + draw(5)
	}
	for range draw(7) {
		var l []api.Op
		for range draw(14) {
			l = append(l, api.Op{Kind: 1 + draw(3), A: anyNumber(draw, 20), B: draw(9)})
		}
		c.Tasks = append(c.Tasks, task(anyNumber(draw, 9), anyNumber(draw, 9), l))
	}
	return c
}

// plainLoad goes through all of a program, for one set.
func plainLoad(l []api.Op, sets, set int) int {
	blocks := map[int]bool{}
	for _, o := range l {
		if o.Kind == api.OpAccess && o.A >= 0 && o.A%sets == set {
			blocks[o.A] = true
		}
	}
	return len(blocks)
}

// plainBound goes through all sets, and through all tasks for each.
func plainBound(c api.Config, i int) int {
	sum := 0
	for set := 0; c.Machine.Sets <= 16 && set < c.Machine.Sets; set++ {
		touched := false
		for _, t := range c.Tasks {
			if t.Priority > c.Tasks[i].Threshold && plainLoad(t.Program, c.Machine.Sets, set) > 0 {
				touched = true
			}
		}
		load := plainLoad(c.Tasks[i].Program, c.Machine.Sets, set)
		switch {
		case !touched:
		case c.Machine.Ways < load:
			sum += c.Machine.Ways
		default:
			sum += load
		}
	}
	return sum
}

func TestOfAnyConfiguration(t *testing.T) {
	draw := drawing(23)
	some := 0
	for range 20000 {
		c := anyConfig(draw)
		was := copied(c)
		for i := range c.Tasks {
			want := plainBound(c, i)
			if got := Bound(c, i); got != want {
				t.Fatalf("%v, task %d: a Bound of %d, want %d", c, i, got, want)
			}
			costs := []int{c.Machine.Hit, c.Machine.Miss}
			for i := range costs {
				costs[i] = max(0, min(100, costs[i]))
			}
			if got := Cost(c, i); got != want*max(0, costs[1]-costs[0]) {
				t.Fatalf("%v, task %d: a Cost of %d of %d", c, i, got, want)
			}
			if want != 0 {
				some++
			}
		}
		if !conf.Same(c, was) {
			t.Fatalf("%v is changed: %v", was, c)
		}
	}
	if some < 10000 {
		t.Errorf("only %d bounds that aren't 0", some)
	}
}

// misses is how many of these a cache doesn't find; it goes on from there.
func misses(k *cache.Cache, blocks []int) int {
	n := 0
	for _, block := range blocks {
		if hit, _ := k.Access(block); !hit {
			n++
		}
	}
	return n
}

// blocksOf are so many, of sets that are touched.
func blocksOf(draw func(n int) int, count, span int, touched []bool) []int {
	var l []int
	for range count {
		if block := draw(span); touched[block%len(touched)] {
			l = append(l, block)
		}
	}
	return l
}

// TestMissesBetweenParts: whatever others access of touched sets between two parts of a program, it misses at most the bound more than alone; and sometimes so much.
func TestMissesBetweenParts(t *testing.T) {
	draw := drawing(7)
	reached := 0
	for range 20000 {
		m := api.Machine{Sets: 1 + draw(4), Ways: 1 + draw(4), Hit: 1, Miss: 9}
		if draw(20) == 0 {
			m.Sets, m.Ways = 16, 4
		}
		span := 1 + draw(m.Sets*m.Ways*3)
		all := slices.Repeat([]bool{true}, m.Sets)
		blocks := blocksOf(draw, 1+draw(20), span, all)
		c := two(m, blocks, blocksOf(draw, draw(4), 256, all))
		touched := Touched(c, Above(c, 0))
		from := cache.New(m.Sets, m.Ways)
		misses(from, blocksOf(draw, draw(20), span, all))
		alone, _ := cost.Alone(c.Tasks[0].Program, m, from)
		cut := draw(len(blocks) + 1)
		got := misses(from, blocks[:cut])
		misses(from, blocksOf(draw, draw(80), 256, touched))
		got += misses(from, blocks[cut:])
		if got > alone+Bound(c, 0) {
			t.Fatalf("%v, %v cut at %d, sets %v: %d misses, alone %d, a bound of %d", m, blocks, cut, touched, got, alone, Bound(c, 0))
		}
		if Bound(c, 0) > 0 && got == alone+Bound(c, 0) {
			reached++
		}
	}
	if reached < 1000 {
		t.Errorf("the bound is reached only %d times", reached)
	}
}

// mayBe is a configuration that may be, of tasks that access blocks.
func mayBe(draw func(n int) int) api.Config {
	c := api.Config{Machine: api.Machine{Sets: 1 + draw(4), Ways: 1 + draw(4), Hit: 1, Miss: 1 + draw(9)}}
	for priority := range 3 + draw(4) {
		l := accesses(blocksOf(draw, 1+draw(20), 12, []bool{true})...)
		c.Tasks = append(c.Tasks, task(priority, priority+draw(2), l))
	}
	return c
}

// TestMissesOfRuns: a job misses at most the bound more than alone, as often as it is displaced.
func TestMissesOfRuns(t *testing.T) {
	draw := drawing(31)
	more := 0
	for range 1500 {
		c := mayBe(draw)
		k, e := kernel.New(c)
		if e != api.OK {
			t.Fatalf("%v: %d", c, e)
		}
		for range 20 {
			if e := k.Event(api.Event{At: draw(300), Kind: api.EventRelease, A: draw(len(c.Tasks))}); e != api.OK {
				t.Fatal(e)
			}
		}
		k.Run(10000)
		for i, r := range k.Reports() {
			alone, _, e := k.Alone(i)
			if e != api.OK || r.End < 0 {
				t.Fatalf("%+v: %d", r, e)
			}
			if r.Misses > alone+r.Displaced*Bound(c, r.Task) {
				t.Fatalf("%v, %+v: alone %d, a bound of %d", c, r, alone, Bound(c, r.Task))
			}
			if r.Misses > alone {
				more++
			}
		}
	}
	if more < 500 {
		t.Errorf("only %d jobs missed more than alone", more)
	}
}
