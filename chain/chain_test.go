package chain

import (
	"math"
	"slices"
	"testing"

	"signalbox/api"
	"signalbox/conf"
	"signalbox/kernel"
)

// drawing is a row of numbers below n that look drawn.
func drawing(seed uint32) func(n int) int {
	return func(n int) int {
		seed = seed*1664525 + 1013904223
		return int(seed>>8) % n
	}
}

// of is a configuration of tasks, each a Priority, a Threshold and a Frame; all else of it may be, if these may.
func of(tasks ...[3]int) api.Config {
	c := api.Config{Machine: api.Machine{Sets: 1, Ways: 1, Hit: 1, Miss: 2}}
	for _, t := range tasks {
		c.Tasks = append(c.Tasks, api.Task{Priority: t[0], Threshold: t[1], Frame: t[2], Period: 900, Deadline: 900, Program: []api.Op{{Kind: api.OpCompute, A: 30}}})
	}
	return c
}

// steps are so many tasks, each of which can displace the one ahead.
func steps(count, frame int) api.Config {
	var l [][3]int
	for i := range count {
		l = append(l, [3]int{i, i, frame})
	}
	return of(l...)
}

// sameGroups asks whether groups are the same, in their order.
func sameGroups(a, b [][]int) bool {
	return slices.EqualFunc(a, b, slices.Equal[[]int])
}

// wantNothing asks that nothing is told but who can displace whom.
func wantNothing(t *testing.T, name string, c api.Config) {
	t.Helper()
	if b, d, g := Bound(c), Deepest(c), Groups(c); b != 0 || len(d) != 0 || len(g) != 0 {
		t.Errorf("%s: %d, %v, %v", name, b, d, g)
	}
}

func TestExample(t *testing.T) {
	c := of([3]int{1, 1, 5}, [3]int{2, 2, 7})
	if Bound(c) != 12 || !slices.Equal(Deepest(c), []int{0, 1}) || !sameGroups(Groups(c), [][]int{{1}, {0}}) {
		t.Error(Bound(c), Deepest(c), Groups(c))
	}
	if !Can(c, 1, 0) || Can(c, 0, 1) || Can(c, 0, 0) || Can(c, 1, 1) {
		t.Error(Can(c, 1, 0), Can(c, 0, 1), Can(c, 0, 0), Can(c, 1, 1))
	}
	c.Tasks[0].Threshold = 2
	if Bound(c) != 7 || !slices.Equal(Deepest(c), []int{1}) || !sameGroups(Groups(c), [][]int{{1, 0}}) || Can(c, 1, 0) {
		t.Error(Bound(c), Deepest(c), Groups(c))
	}
}

func TestCan(t *testing.T) {
	for _, p := range []int{math.MinInt, -7, -1, 0, 1, 5, 63, 64, 1 << 32, math.MaxInt} {
		for _, threshold := range []int{math.MinInt, -7, -1, 0, 1, 5, 63, 64, 1 << 32, math.MaxInt} {
			c := of([3]int{p, math.MaxInt, 1}, [3]int{math.MinInt, threshold, 1})
			if got := Can(c, 0, 1); got != (p > threshold) {
				t.Errorf("priority %d, threshold %d: %v", p, threshold, got)
			}
			if Can(c, 1, 0) {
				t.Errorf("priority %d, threshold %d: the other way", p, threshold)
			}
		}
	}
	itself := of([3]int{5, 4, -1})
	if !Can(itself, 0, 0) {
		t.Error("a task that is above its own threshold")
	}
	many := steps(40, 1) // Can looks at the two alone
	many.Tasks[3].Frame = -1
	if !Can(many, 39, 3) || !Can(many, 3, 2) || Can(many, 3, 39) {
		t.Error(Can(many, 39, 3), Can(many, 3, 2), Can(many, 3, 39))
	}
}

func TestCanOfNoTask(t *testing.T) {
	for _, c := range []api.Config{{}, of([3]int{5, -9, 1}), of([3]int{5, -9, 1}, [3]int{6, -9, 1})} {
		count := len(c.Tasks)
		for _, none := range []int{math.MinInt, -1 << 32, -2, -1, count, count + 1, 8, 12, 1 << 32, math.MaxInt} {
			for other := -1; other <= count; other++ {
				if Can(c, none, other) || Can(c, other, none) {
					t.Errorf("%d of %d tasks, and %d: %v, %v", none, count, other, Can(c, none, other), Can(c, other, none))
				}
			}
		}
	}
}

func TestDeepest(t *testing.T) {
	for _, c := range []struct {
		name  string
		tasks [][3]int
		bound int
		want  []int
	}{
		{"no tasks", nil, 0, nil},
		{"one task", [][3]int{{3, 5, 9}}, 9, []int{0}},
		{"one task without a frame", [][3]int{{3, 5, 0}}, 0, []int{0}},
		{"in any order", [][3]int{{2, 2, 3}, {3, 3, 4}, {1, 1, 5}}, 12, []int{2, 0, 1}},
		{"up to the threshold nobody displaces", [][3]int{{1, 2, 5}, {2, 2, 3}, {3, 3, 4}}, 9, []int{0, 2}},
		{"a great frame, from which nobody goes on", [][3]int{{1, 9, 50}, {2, 2, 3}, {3, 3, 4}}, 50, []int{0}},
		{"a great frame that is left out", [][3]int{{1, 3, 1}, {2, 9, 50}, {4, 4, 4}}, 50, []int{1}},
		{"the way round a great threshold", [][3]int{{1, 1, 5}, {2, 9, 6}, {3, 3, 4}, {4, 4, 3}}, 12, []int{0, 2, 3}},
		{"the lowest first one", [][3]int{{4, 9, 7}, {2, 9, 7}, {3, 9, 7}}, 7, []int{1}},
		{"the lowest second one", [][3]int{{1, 2, 5}, {5, 9, 7}, {3, 9, 7}, {4, 9, 7}}, 12, []int{0, 2}},
		{"the lowest second one is not the one of most frames", [][3]int{{1, 1, 5}, {2, 5, 3}, {3, 3, 4}, {4, 5, 3}, {6, 9, 4}}, 16, []int{0, 2, 3, 4}},
		{"a longer one ahead of its beginning", [][3]int{{1, 1, 5}, {2, 2, 0}, {3, 3, 0}}, 5, []int{0, 1, 2}},
		{"a longer one, all without frames", [][3]int{{3, 3, 0}, {2, 2, 0}, {1, 2, 0}}, 0, []int{2, 0}},
		{"the lowest one, though it adds nothing", [][3]int{{1, 1, 0}, {2, 2, 0}, {5, 5, 8}}, 8, []int{0, 1, 2}},
		{"a lower second one goes ahead of a longer chain", [][3]int{{1, 1, 5}, {2, 9, 4}, {3, 3, 2}, {4, 4, 2}}, 9, []int{0, 1}},
		{"a lower first one goes ahead of a longer chain", [][3]int{{1, 9, 4}, {3, 3, 2}, {4, 4, 2}}, 4, []int{0}},
		{"priorities below 0", [][3]int{{-1, -1, 2}, {-5, -4, 3}, {math.MinInt, math.MinInt, 4}}, 9, []int{2, 1, 0}},
		{"great numbers", [][3]int{{math.MaxInt, math.MaxInt, 2}, {math.MinInt, math.MaxInt - 1, 3}, {0, math.MaxInt, 4}}, 5, []int{1, 0}},
	} {
		config := of(c.tasks...)
		was := of(c.tasks...)
		if b, d := Bound(config), Deepest(config); b != c.bound || !slices.Equal(d, c.want) {
			t.Errorf("%s: %d, %v, want %d, %v", c.name, b, d, c.bound, c.want)
		}
		clear(Deepest(config)) // which the next call doesn't see
		if d := Deepest(config); !slices.Equal(d, c.want) {
			t.Errorf("%s, anew: %v, want %v", c.name, d, c.want)
		}
		if !conf.Same(config, was) {
			t.Errorf("%s: %v is changed: %v", c.name, was, config)
		}
	}
}

func TestGroups(t *testing.T) {
	for _, c := range []struct {
		name  string
		tasks [][3]int
		want  [][]int
	}{
		{"no tasks", nil, nil},
		{"one task", [][3]int{{3, 5, 9}}, [][]int{{0}}},
		{"all displace", [][3]int{{2, 2, 3}, {3, 3, 4}, {1, 1, 5}}, [][]int{{1}, {0}, {2}}},
		{"none displaces", [][3]int{{2, 9, 3}, {3, 9, 4}, {1, 9, 5}}, [][]int{{1, 0, 2}}},
		{"into the first one that may be", [][3]int{{1, 4, 1}, {2, 2, 1}, {3, 3, 1}, {4, 4, 1}}, [][]int{{3, 0}, {2}, {1}}},
		{"into the second one", [][3]int{{1, 3, 1}, {2, 2, 1}, {3, 3, 1}, {4, 4, 1}}, [][]int{{3}, {2, 0}, {1}}},
		{"one of a group keeps it out", [][3]int{{1, 4, 1}, {3, 5, 1}, {5, 9, 1}}, [][]int{{2, 1}, {0}}},
		{"the frames are nothing to it", [][3]int{{1, 1, 0}, {2, 2, 1 << 20}}, [][]int{{1}, {0}}},
	} {
		config := of(c.tasks...)
		was := of(c.tasks...)
		if g := Groups(config); !sameGroups(g, c.want) {
			t.Errorf("%s: %v, want %v", c.name, g, c.want)
		}
		for _, group := range Groups(config) { // which neither its neighbours nor the next call see
			_ = append(group, 99)
			clear(group)
		}
		if g := Groups(config); !sameGroups(g, c.want) {
			t.Errorf("%s, anew: %v, want %v", c.name, g, c.want)
		}
		if !conf.Same(config, was) {
			t.Errorf("%s: %v is changed: %v", c.name, was, config)
		}
	}
}

// TestGroupsShareNothing: what is put behind one group isn't seen in another one.
func TestGroupsShareNothing(t *testing.T) {
	g := Groups(of([3]int{1, 4, 1}, [3]int{2, 3, 1}, [3]int{3, 3, 1}, [3]int{4, 4, 1}, [3]int{5, 5, 1}))
	want := [][]int{{4}, {3, 0}, {2, 1}}
	if !sameGroups(g, want) {
		t.Fatal(g)
	}
	for i := range g {
		for n := range 5 {
			_ = append(g[i], 90+n, 91, 92)
		}
		if !sameGroups(g, want) {
			t.Fatalf("behind group %d: %v", i, g)
		}
	}
}

func TestLimits(t *testing.T) {
	for count := range 13 {
		c := steps(count, 1<<20)
		if Bound(c) != count<<20 || len(Deepest(c)) != count || len(Groups(c)) != count {
			t.Errorf("%d tasks: %d, %v, %v", count, Bound(c), Deepest(c), Groups(c))
		}
	}
	for _, count := range []int{13, 14, 100} {
		wantNothing(t, "too many tasks", steps(count, 1))
	}
}

// TestOfWrongTasks: one of them, wherever it is, and nothing is told.
func TestOfWrongTasks(t *testing.T) {
	for _, count := range []int{1, 2, 3, 12} {
		for i := range count {
			for name, spoil := range map[string]func(*api.Task){
				"a frame below 0":                    func(t *api.Task) { t.Frame = -1 },
				"a frame far below 0":                func(t *api.Task) { t.Frame = math.MinInt },
				"too great a frame":                  func(t *api.Task) { t.Frame = 1<<20 + 1 },
				"far too great a frame":              func(t *api.Task) { t.Frame = math.MaxInt },
				"a threshold below the priority":     func(t *api.Task) { t.Threshold = t.Priority - 1 },
				"a threshold far below the priority": func(t *api.Task) { t.Threshold = math.MinInt },
				"a priority above the threshold":     func(t *api.Task) { t.Priority = math.MaxInt },
			} {
				c := steps(count, 3)
				spoil(&c.Tasks[i])
				wantNothing(t, name, c)
			}
			for other := range count {
				if other == i {
					continue
				}
				c := steps(count, 3)
				c.Tasks[i].Priority, c.Tasks[i].Threshold = other, 63
				wantNothing(t, "one priority twice", c)
			}
		}
	}
	wantNothing(t, "no tasks", api.Config{})
}

// TestOfTasksAlone: nothing else of a configuration is looked at.
func TestOfTasksAlone(t *testing.T) {
	c := of([3]int{70, 70, 5000}, [3]int{99, 1 << 40, 5000})
	c.Machine = api.Machine{Sets: -1, Miss: -9}
	c.Groups = -3
	c.Ceilings = []int{-1, 999, 0, 0, 0, 0, 0}
	c.Lines = []int{77, -1}
	for i := range c.Tasks {
		c.Tasks[i].Period, c.Tasks[i].Deadline, c.Tasks[i].Float, c.Tasks[i].Program = -1, math.MinInt, -7, []api.Op{{Kind: 99, A: -1, B: -1}}
	}
	if Bound(c) != 10000 || !slices.Equal(Deepest(c), []int{0, 1}) || !sameGroups(Groups(c), [][]int{{1}, {0}}) {
		t.Error(Bound(c), Deepest(c), Groups(c))
	}
}

// anyTasks are some that may be.
func anyTasks(draw func(n int) int, most int) api.Config {
	var l [][3]int
	free := make([]int, 14)
	for i := range free {
		free[i] = i
	}
	for range draw(most + 1) {
		i := draw(len(free))
		p := free[i]
		free = slices.Delete(free, i, i+1)
		l = append(l, [3]int{p, p + draw(5), draw(5)})
	}
	return of(l...)
}

// chains are all that there are.
func chains(c api.Config) [][]int {
	var all [][]int
	var grow func(chain []int)
	grow = func(chain []int) {
		all = append(all, chain)
		for i, t := range c.Tasks {
			if len(chain) == 0 || t.Priority > c.Tasks[chain[len(chain)-1]].Threshold {
				grow(append(slices.Clone(chain), i))
			}
		}
	}
	grow(nil)
	return all
}

func depth(c api.Config, chain []int) int {
	sum := 0
	for _, i := range chain {
		sum += c.Tasks[i].Frame
	}
	return sum
}

// ahead asks whether a chain is told rather than another one of the same depth.
func ahead(c api.Config, a, b []int) bool {
	for i := range min(len(a), len(b)) {
		if a[i] != b[i] {
			return c.Tasks[a[i]].Priority < c.Tasks[b[i]].Priority
		}
	}
	return len(a) > len(b)
}

// plainGroups asks of each group for all of its tasks.
func plainGroups(c api.Config) [][]int {
	var groups [][]int
	for priority := 99; priority >= 0; priority-- {
		for i, t := range c.Tasks {
			if t.Priority != priority {
				continue
			}
			place := 0
			for place < len(groups) && displaces(c, append(slices.Clone(groups[place]), i)) {
				place++
			}
			if place == len(groups) {
				groups = append(groups, nil)
			}
			groups[place] = append(groups[place], i)
		}
	}
	return groups
}

// displaces asks whether some task of a group can displace some other one.
func displaces(c api.Config, group []int) bool {
	for _, a := range group {
		for _, b := range group {
			if a != b && c.Tasks[a].Priority > c.Tasks[b].Threshold {
				return true
			}
		}
	}
	return false
}

func TestOfAnyTasks(t *testing.T) {
	draw := drawing(26)
	for range 3000 {
		c := anyTasks(draw, 8)
		var want []int
		for _, chain := range chains(c) {
			if d := depth(c, chain) - depth(c, want); d > 0 || d == 0 && ahead(c, chain, want) {
				want = chain
			}
		}
		if got := Deepest(c); !slices.Equal(got, want) {
			t.Fatalf("%v: %v, want %v", c.Tasks, got, want)
		}
		if got := Bound(c); got != depth(c, want) {
			t.Fatalf("%v: %d, want %d", c.Tasks, got, depth(c, want))
		}
		if got := Groups(c); !sameGroups(got, plainGroups(c)) {
			t.Fatalf("%v: %v, want %v", c.Tasks, got, plainGroups(c))
		}
	}
}

// TestGroupsHoldAllOnce: each task is in one group, in which nobody can displace it.
func TestGroupsHoldAllOnce(t *testing.T) {
	draw := drawing(12)
	for range 2000 {
		c := anyTasks(draw, 12)
		var all []int
		for _, group := range Groups(c) {
			if len(group) == 0 || displaces(c, group) {
				t.Fatalf("%v: group %v", c.Tasks, group)
			}
			all = append(all, group...)
		}
		slices.Sort(all)
		if len(all) != len(c.Tasks) {
			t.Fatalf("%v: %v", c.Tasks, all)
		}
		for i, n := range all {
			if i != n {
				t.Fatalf("%v: %v", c.Tasks, all)
			}
		}
	}
}

// begun is a kernel at its beginning.
func begun(t *testing.T, c api.Config) *kernel.Kernel {
	t.Helper()
	k, e := kernel.New(c)
	if e != api.OK {
		t.Fatalf("%v: %d", c, e)
	}
	return k
}

// TestDeepestOfRuns: if each task of the deepest chain comes a tick behind the one ahead, the stack is as deep as is told.
func TestDeepestOfRuns(t *testing.T) {
	draw := drawing(3)
	for range 1000 {
		c := anyTasks(draw, 8)
		if len(c.Tasks) == 0 {
			continue
		}
		k := begun(t, c)
		for at, task := range Deepest(c) {
			k.Event(api.Event{At: at, Kind: api.EventRelease, A: task})
		}
		k.Run(20)
		if k.Peak() != Bound(c) {
			t.Fatalf("%v: %v came, %d deep, want %d", c.Tasks, Deepest(c), k.Peak(), Bound(c))
		}
	}
}

// TestStacksOfRuns: whoever comes when, the stack is never deeper, and never has two of one group.
func TestStacksOfRuns(t *testing.T) {
	draw := drawing(60)
	reached := 0
	for range 500 {
		c := anyTasks(draw, 8)
		if len(c.Tasks) == 0 {
			continue
		}
		for i := range c.Tasks {
			c.Tasks[i].Program[0].A = 1 + draw(20)
		}
		k := begun(t, c)
		for range 60 {
			k.Event(api.Event{At: draw(200), Kind: api.EventRelease, A: draw(len(c.Tasks))})
		}
		groups := Groups(c)
		for now := range 300 {
			k.Run(now)
			reports := k.Reports()
			in := make([]int, len(groups))
			for _, f := range k.Frames() {
				in[slices.IndexFunc(groups, func(g []int) bool { return slices.Contains(g, reports[f.Who].Task) })]++
			}
			if len(in) > 0 && slices.Max(in) > 1 {
				t.Fatalf("%v: two of a group at %d: %v of %v", c.Tasks, now, in, groups)
			}
		}
		if k.Peak() > Bound(c) {
			t.Fatalf("%v: %d deep, the bound is %d", c.Tasks, k.Peak(), Bound(c))
		}
		if k.Peak() == Bound(c) {
			reached++
		}
	}
	if reached < 100 {
		t.Errorf("the bound is reached only %d times", reached)
	}
}
