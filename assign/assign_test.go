package assign

import (
	"math"
	"slices"
	"testing"

	"signalbox/api"
	"signalbox/conf"
	"signalbox/prog"
)

// program is a text's, which must be one.
func program(s string) []api.Op {
	l, e := prog.Parse(s)
	if e != api.OK {
		panic(s)
	}
	return l
}

// task is one of a priority, of which each job has to be done within a deadline. Its Threshold isn't looked at, so it may not be.
func task(priority, period, deadline int, text string) api.Task {
	return api.Task{Priority: priority, Threshold: -1, Period: period, Deadline: deadline, Program: program(text)}
}

// of is a configuration of tasks; all else of it may be.
func of(tasks ...api.Task) api.Config {
	return api.Config{
		Machine:   api.Machine{Sets: 2, Ways: 2, Hit: 2, Miss: 10},
		Mailboxes: []int{2},
		Groups:    1,
		Counts:    []int{3},
		Ceilings:  []int{20, 40},
		Tasks:     tasks,
		Lines:     []int{0},
	}
}

// three are tasks of which the lowest may reach the middle one, but not the highest one.
func three() api.Config {
	return of(task(2, 90, 90, "compute 8"), task(5, 90, 20, "compute 3"), task(9, 90, 10, "compute 3"))
}

// copied is a configuration that shares nothing with another one.
func copied(c api.Config) api.Config {
	c.Mailboxes = append([]int(nil), c.Mailboxes...)
	c.Counts = append([]int(nil), c.Counts...)
	c.Ceilings = append([]int(nil), c.Ceilings...)
	c.Lines = append([]int(nil), c.Lines...)
	tasks := append([]api.Task(nil), c.Tasks...)
	for i := range tasks {
		tasks[i].Program = append([]api.Op(nil), tasks[i].Program...)
	}
	c.Tasks = tasks
	return c
}

// with is a configuration with thresholds, made by hand.
func with(c api.Config, l []int) api.Config {
	c = copied(c)
	for i := range c.Tasks {
		c.Tasks[i].Threshold = l[i]
	}
	return c
}

// spoil changes all that a configuration refers to.
func spoil(c api.Config) {
	clear(c.Mailboxes)
	clear(c.Counts)
	clear(c.Ceilings)
	for i := range c.Lines {
		c.Lines[i] = 7
	}
	for _, t := range c.Tasks {
		clear(t.Program)
	}
	clear(c.Tasks)
}

func TestWith(t *testing.T) {
	for _, l := range [][]int{{2, 5, 9}, {63, 63, 63}, {4, 63, 9}, {8, 5, 10}} {
		c := three()
		was, thresholds := copied(c), slices.Clone(l)
		got, e := With(c, l)
		if e != api.OK || !conf.Same(got, with(was, l)) {
			t.Errorf("%v: %v, %d", l, got, e)
		}
		spoil(got)
		if !conf.Same(c, was) || !slices.Equal(l, thresholds) {
			t.Errorf("%v, %v is changed: %v, %v", was, thresholds, c, l)
		}
		got, _ = With(c, l)
		spoil(c)
		clear(l)
		if !conf.Same(got, with(was, thresholds)) {
			t.Errorf("%v: what was told is changed: %v", thresholds, got)
		}
	}
}

func TestWithIsOfAsManyAsTasks(t *testing.T) {
	empty := three()
	empty.Tasks, empty.Lines = nil, nil
	for _, w := range []struct {
		name string
		c    api.Config
		l    []int
		e    api.Errno
	}{
		{"none", three(), nil, api.ErrArg},
		{"one less", three(), []int{2, 5}, api.ErrArg},
		{"one more", three(), []int{2, 5, 9, 9}, api.ErrArg},
		{"one less, and out of range", three(), []int{-1, 64}, api.ErrArg},
		{"one of no tasks", empty, []int{1}, api.ErrArg},
		{"none of no tasks", empty, nil, api.ErrArg}, // which is the check's
		{"one of nothing", api.Config{}, []int{1}, api.ErrArg},
		{"none of nothing", api.Config{}, nil, api.ErrRange}, // the machine's sets
		{"none of nothing, empty", api.Config{}, []int{}, api.ErrRange},
		{"below a priority", three(), []int{1, 5, 9}, api.ErrRange},
		{"below another priority", three(), []int{63, 63, 8}, api.ErrRange},
		{"above the greatest", three(), []int{2, 64, 9}, api.ErrRange},
		{"far below", three(), []int{math.MinInt, 5, 9}, api.ErrRange},
		{"far above", three(), []int{2, 5, math.MaxInt}, api.ErrRange},
	} {
		got, e := With(w.c, w.l)
		if e != w.e || !conf.Same(got, api.Config{}) {
			t.Errorf("%s: %v, %d, want %d", w.name, got, e, w.e)
		}
		if Passes(w.c, w.l) {
			t.Errorf("%s: passes", w.name)
		}
	}
}

// spoilt are configurations that may not be, whatever the thresholds are.
func spoilt() map[string]api.Config {
	l := map[string]api.Config{}
	for name, change := range map[string]func(c *api.Config){
		"no sets":             func(c *api.Config) { c.Machine.Sets = 0 },
		"too many groups":     func(c *api.Config) { c.Groups = 5 },
		"too many tasks":      func(c *api.Config) { c.Tasks = append(c.Tasks, make([]api.Task, 6)...) },
		"groups below 0":      func(c *api.Config) { c.Groups = -1 },
		"a line of no task":   func(c *api.Config) { c.Lines = []int{3} },
		"a priority below 0":  func(c *api.Config) { c.Tasks[0].Priority = -1 },
		"too high a priority": func(c *api.Config) { c.Tasks[2].Priority = 64 },
		"a far one":           func(c *api.Config) { c.Tasks[2].Priority = math.MaxInt },
		"a priority twice":    func(c *api.Config) { c.Tasks[0].Priority = 9 },
		"no period":           func(c *api.Config) { c.Tasks[1].Period = 0 },
		"too late a deadline": func(c *api.Config) { c.Tasks[1].Deadline = 91 },
		"a float below 0":     func(c *api.Config) { c.Tasks[1].Float = -1 },
		"too great a float":   func(c *api.Config) { c.Tasks[1].Float = 1<<20 + 1 },
		"too great a frame":   func(c *api.Config) { c.Tasks[1].Frame = 4097 },
		"no program":          func(c *api.Config) { c.Tasks[1].Program = nil },
		"no operation":        func(c *api.Config) { c.Tasks[1].Program = []api.Op{{Kind: 99}} },
		"a region not closed": func(c *api.Config) { c.Tasks[1].Program = program("enter") },
		"a low ceiling":       func(c *api.Config) { c.Ceilings[0], c.Tasks[2].Program = 8, program("lock 0;unlock 0") },
	} {
		c := three()
		change(&c)
		l[name] = c
	}
	return l
}

// TestOfWrongConfigurations: the check's error, and nothing is found.
func TestOfWrongConfigurations(t *testing.T) {
	for name, c := range spoilt() {
		was, least := copied(c), Least(c)
		if len(least) != len(c.Tasks) {
			t.Fatalf("%s: %v", name, least)
		}
		want := conf.Check(with(c, least))
		got, e := With(c, least)
		if want == api.OK || e != want || !conf.Same(got, api.Config{}) || Passes(c, least) {
			t.Errorf("%s: %v, %d, want %d", name, got, e, want)
		}
		if l, ok := Search(c); ok || len(l) != 0 {
			t.Errorf("%s: %v, %v", name, l, ok)
		}
		if !conf.Same(c, was) {
			t.Errorf("%s: %v is changed: %v", name, was, c)
		}
	}
}

func TestLeast(t *testing.T) {
	for _, l := range [][]int{nil, {7}, {0, 63}, {9, 2, 5}, {4, 4, 4}, {-1, math.MinInt, math.MaxInt, 64}, {1, 2, 3, 4, 5, 6, 7, 8, 9, 10}} {
		var c api.Config
		for _, priority := range l {
			c.Tasks = append(c.Tasks, api.Task{Priority: priority, Threshold: 33})
		}
		for range 2 {
			got := Least(c)
			if !slices.Equal(got, l) {
				t.Errorf("%v: %v", l, got)
			}
			clear(got) // which the next call doesn't see
		}
	}
}

func TestPasses(t *testing.T) {
	for _, p := range []struct {
		l    []int
		want bool
	}{
		{[]int{2, 5, 9}, true},
		{[]int{4, 5, 9}, true},
		{[]int{5, 5, 9}, true},
		{[]int{8, 63, 63}, true},
		{[]int{9, 5, 9}, false}, // 8 and 3 is above 10
		{[]int{63, 63, 63}, false},
		{[]int{2, 9, 9}, true},
		{[]int{2, 4, 9}, false}, // it may not be
		{[]int{2, 5, 64}, false},
		{[]int{2, 5}, false},
		{nil, false},
	} {
		c := three()
		was := slices.Clone(p.l)
		if got := Passes(c, p.l); got != p.want {
			t.Errorf("%v: %v", p.l, got)
		}
		if !conf.Same(c, three()) || !slices.Equal(p.l, was) {
			t.Errorf("%v, %v is changed: %v, %v", three(), was, c, p.l)
		}
	}
}

func TestTries(t *testing.T) {
	for count, want := range []int{1, 3, 7, 13, 21, 31, 43, 57, 73, 91, 111} {
		if got := Tries(api.Config{Tasks: make([]api.Task, count)}); got != want {
			t.Errorf("%d tasks: %d, want %d", count, got, want)
		}
	}
}

func TestSearch(t *testing.T) {
	region := "enter;compute 5;exit;compute 1" // of 7 ticks
	for _, s := range []struct {
		name  string
		tasks []api.Task
		want  []int
	}{
		{"one alone", []api.Task{task(1, 10, 5, "compute 5")}, []int{63}},
		{"the least one alone", []api.Task{task(0, 10, 5, "compute 5")}, []int{63}},
		{"the greatest one alone", []api.Task{task(63, 10, 5, "compute 5")}, []int{63}},
		{"up to the deadline", []api.Task{task(1, 20, 20, "compute 7"), task(2, 10, 10, "compute 3")}, []int{63, 63}},
		{"a tick behind it", []api.Task{task(1, 20, 20, "compute 8"), task(2, 20, 10, "compute 3")}, []int{1, 63}},
		{"just below", []api.Task{task(1, 20, 20, "compute 8"), task(7, 20, 10, "compute 3")}, []int{6, 63}},
		{"just below the greatest", []api.Task{task(62, 20, 20, "compute 8"), task(63, 20, 10, "compute 3")}, []int{62, 63}},
		{"the greatest", []api.Task{task(62, 20, 20, "compute 7"), task(63, 20, 10, "compute 3")}, []int{63, 63}},
		{"the least ones", []api.Task{task(0, 20, 20, "compute 8"), task(1, 20, 10, "compute 3")}, []int{0, 63}},
		{"the middle one, not the highest", three().Tasks, []int{8, 63, 63}},
		{"in another order", []api.Task{three().Tasks[2], three().Tasks[0], three().Tasks[1]}, []int{63, 8, 63}},
		{"the highest one, not the middle one", []api.Task{task(2, 90, 90, "compute 8"), task(5, 90, 10, "compute 3"), task(9, 90, 50, "compute 3")}, []int{4, 63, 63}},
		{"each its own", []api.Task{task(30, 90, 12, "compute 4"), task(10, 90, 60, "compute 10"), task(50, 90, 7, "compute 2"), task(20, 90, 17, "compute 6")}, []int{63, 19, 63, 49}},
		{"a region that is borne", []api.Task{task(3, 90, 90, region), task(9, 90, 10, "compute 3")}, []int{8, 63}},
		{"a lock that is borne", []api.Task{task(3, 90, 90, "lock 0;compute 5;unlock 0;compute 1"), task(9, 90, 14, "compute 3"), task(21, 90, 4, "compute 4")}, []int{8, 20, 63}},
		{"blocks that aren't found", []api.Task{task(3, 90, 90, "access 1"), task(9, 90, 12, "compute 3")}, []int{8, 63}},
	} {
		c := of(s.tasks...)
		was := copied(c)
		for range 2 {
			got, ok := Search(c)
			if !ok || !slices.Equal(got, s.want) {
				t.Errorf("%s: %v, %v, want %v", s.name, got, ok, s.want)
			}
			clear(got) // which the next call doesn't see
		}
		if !Passes(c, s.want) || !conf.Same(c, was) {
			t.Errorf("%s: %v, was %v", s.name, c, was)
		}
		for i := range c.Tasks { // what they are ahead changes nothing
			c.Tasks[i].Threshold = []int{63, math.MinInt, 64, math.MaxInt}[i]
		}
		if got, ok := Search(c); !ok || !slices.Equal(got, s.want) {
			t.Errorf("%s, whatever they are: %v, %v, want %v", s.name, got, ok, s.want)
		}
	}
}

// TestFloats: what is withheld counts, but not of those that can't be displaced.
func TestFloats(t *testing.T) {
	c := three()
	for _, f := range []struct {
		floats [3]int
		want   []int
	}{
		{[3]int{7, 0, 0}, []int{8, 63, 63}},
		{[3]int{8, 0, 0}, nil}, // the highest one is a tick late
		{[3]int{0, 1 << 20, 1 << 20}, []int{8, 63, 63}},
	} {
		for i, float := range f.floats {
			c.Tasks[i].Float = float
		}
		if got, ok := Search(c); ok != (f.want != nil) || !slices.Equal(got, f.want) {
			t.Errorf("%v: %v, %v, want %v", f.floats, got, ok, f.want)
		}
	}
}

func TestSearchFindsNone(t *testing.T) {
	for _, s := range []struct {
		name  string
		tasks []api.Task
	}{
		{"late alone", []api.Task{task(1, 10, 5, "compute 6")}},
		{"the lowest one is late", []api.Task{task(1, 10, 10, "compute 6"), task(2, 10, 10, "compute 5")}},
		{"the highest one is late", []api.Task{task(1, 90, 90, "compute 6"), task(2, 90, 4, "compute 5")}},
		{"a region too long", []api.Task{task(3, 90, 90, "enter;compute 6;exit"), task(9, 90, 10, "compute 3")}},
		{"a lock too long", []api.Task{task(3, 90, 90, "lock 0;compute 6;unlock 0"), task(9, 90, 10, "compute 3")}},
		{"more than there is", []api.Task{task(3, 9, 9, "compute 1"), task(9, 1, 1, "compute 1"), task(5, 1<<20, 1<<20, "compute 1000")}},
	} {
		c := of(s.tasks...)
		if got, ok := Search(c); ok || len(got) != 0 || Passes(c, Least(c)) {
			t.Errorf("%s: %v, %v", s.name, got, ok)
		}
	}
	if got, ok := Search(api.Config{}); ok || len(got) != 0 {
		t.Error(got, ok)
	}
}
