package conf

import (
	"fmt"
	"math"
	"slices"
	"testing"

	"signalbox/api"
	"signalbox/prog"
)

// op is an operation.
func op(kind int, n ...int) api.Op {
	o := api.Op{Kind: kind}
	if len(n) > 0 {
		o.A = n[0]
	}
	if len(n) > 1 {
		o.B = n[1]
	}
	return o
}

// small is the chapter's example.
func small() api.Config {
	return api.Config{
		Machine: api.Machine{Sets: 1, Ways: 1, Hit: 1, Miss: 1},
		Tasks:   []api.Task{{Priority: 1, Threshold: 1, Period: 9, Deadline: 9, Program: []api.Op{op(api.OpCompute, 5)}}},
	}
}

// whole is a configuration that may be, and has something of everything.
func whole() api.Config {
	return api.Config{
		Machine:   api.Machine{Sets: 4, Ways: 2, Hit: 3, Miss: 10},
		Mailboxes: []int{1, 8},
		Groups:    3,
		Counts:    []int{8, 1, 2},
		Ceilings:  []int{63, 5},
		Tasks: []api.Task{
			{Priority: 5, Threshold: 7, Period: 100, Deadline: 90, Frame: 64, Float: 2, Program: []api.Op{
				op(api.OpLock, 0), op(api.OpSend, 1, 255), op(api.OpUnlock, 0), op(api.OpLock, 1), op(api.OpUnlock, 1)}},
			{Priority: 9, Threshold: 9, Period: 50, Deadline: 50, Program: []api.Op{
				op(api.OpSet, 2, 7), op(api.OpGive, 2), op(api.OpEnter), op(api.OpExit), op(api.OpPush, 4096), op(api.OpPop, 4096)}},
			{Priority: 0, Threshold: 63, Period: 1 << 20, Deadline: 1, Frame: 4096, Float: 1 << 20, Program: []api.Op{op(api.OpCompute, 1000)}},
		},
		Lines: []int{2, 0, 0},
	}
}

// twin is a configuration in new memory.
func twin(c api.Config) api.Config {
	c.Mailboxes, c.Counts, c.Ceilings, c.Lines = slices.Clone(c.Mailboxes), slices.Clone(c.Counts), slices.Clone(c.Ceilings), slices.Clone(c.Lines)
	c.Tasks = slices.Clone(c.Tasks)
	for i := range c.Tasks {
		c.Tasks[i].Program = slices.Clone(c.Tasks[i].Program)
	}
	return c
}

// told is all of a configuration, as a text of its own kind.
func told(c api.Config) string {
	return fmt.Sprint(c.Machine, c.Mailboxes, c.Groups, c.Counts, c.Ceilings, c.Tasks, c.Lines)
}

// want asks what Check tells, and that it changes nothing.
func want(t *testing.T, name string, c api.Config, e api.Errno) {
	t.Helper()
	before := told(c)
	if got := Check(c); got != e {
		t.Errorf("%s: Check is %d, want %d", name, got, e)
	}
	if told(c) != before {
		t.Errorf("%s: changed from %s to %s", name, before, told(c))
	}
}

func TestExample(t *testing.T) {
	want(t, "the example", small(), api.OK)
	want(t, "something of everything", whole(), api.OK)
}

// place is a number of a configuration, what it may be in whole, and the error if it is another one.
type place struct {
	name        string
	at          func(c *api.Config) *int
	least, most int
	below       api.Errno
	above       api.Errno
}

// places are all numbers of whole, but the programs' ones, that hang on nothing else there.
func places() []place {
	const r = api.ErrRange
	l := []place{
		{"sets", func(c *api.Config) *int { return &c.Machine.Sets }, 1, 16, r, r},
		{"ways", func(c *api.Config) *int { return &c.Machine.Ways }, 1, 4, r, r},
		{"hit", func(c *api.Config) *int { return &c.Machine.Hit }, 1, 10, r, r},
		{"miss", func(c *api.Config) *int { return &c.Machine.Miss }, 3, 100, r, r},
		{"groups", func(c *api.Config) *int { return &c.Groups }, 3, 4, r, api.ErrMany}, // below 3 a program asks for one that isn't there
		{"the first ceiling", func(c *api.Config) *int { return &c.Ceilings[0] }, 5, 63, api.ErrNest, r},
		{"the second ceiling", func(c *api.Config) *int { return &c.Ceilings[1] }, 5, 63, api.ErrNest, r},
		{"priority", func(c *api.Config) *int { return &c.Tasks[2].Priority }, 0, 4, r, api.ErrTwice},
		{"threshold", func(c *api.Config) *int { return &c.Tasks[0].Threshold }, 5, 63, r, r},
		{"period", func(c *api.Config) *int { return &c.Tasks[0].Period }, 90, 1 << 20, r, r},
		{"deadline", func(c *api.Config) *int { return &c.Tasks[0].Deadline }, 1, 100, r, r},
	}
	for i := range 2 {
		l = append(l, place{fmt.Sprint("mailbox ", i), func(c *api.Config) *int { return &c.Mailboxes[i] }, 1, 8, r, r})
	}
	for i := range 3 {
		l = append(l, place{fmt.Sprint("count ", i), func(c *api.Config) *int { return &c.Counts[i] }, 1, 8, r, r},
			place{fmt.Sprint("line ", i), func(c *api.Config) *int { return &c.Lines[i] }, 0, 2, r, r},
			place{fmt.Sprint("frame ", i), func(c *api.Config) *int { return &c.Tasks[i].Frame }, 0, 4096, r, r},
			place{fmt.Sprint("float ", i), func(c *api.Config) *int { return &c.Tasks[i].Float }, 0, 1 << 20, r, r})
	}
	return l
}

func TestEachNumber(t *testing.T) {
	for _, p := range places() {
		for n, e := range map[int]api.Errno{p.least: api.OK, p.most: api.OK, p.least - 1: p.below, p.most + 1: p.above, math.MinInt: api.ErrRange, math.MaxInt: api.ErrRange} {
			switch {
			case p.name == "groups" && n == math.MaxInt:
				e = api.ErrMany
			case p.name == "groups" && n < 0:
				e = api.ErrArg
			}
			c := whole()
			*p.at(&c) = n
			want(t, fmt.Sprint(p.name, " ", n), c, e)
		}
	}
}

// TestNumbersByNumbers: numbers that hang on others follow these.
func TestNumbersByNumbers(t *testing.T) {
	for _, x := range []struct {
		name string
		with func(c *api.Config)
		e    api.Errno
	}{
		{"hit and miss 100", func(c *api.Config) { c.Machine.Hit, c.Machine.Miss = 100, 100 }, api.OK},
		{"hit 100, miss 99", func(c *api.Config) { c.Machine.Hit, c.Machine.Miss = 100, 99 }, api.ErrRange},
		{"hit and miss 101", func(c *api.Config) { c.Machine.Hit, c.Machine.Miss = 101, 101 }, api.ErrRange},
		{"hit and miss 0", func(c *api.Config) { c.Machine.Hit, c.Machine.Miss = 0, 0 }, api.ErrRange},
		{"priority and threshold 63", func(c *api.Config) { c.Tasks[0].Priority, c.Tasks[0].Threshold = 63, 63 }, api.OK},
		{"priority 63, threshold 62", func(c *api.Config) { c.Tasks[0].Priority, c.Tasks[0].Threshold = 63, 62 }, api.ErrRange},
		{"priority and threshold 64", func(c *api.Config) { c.Tasks[0].Priority, c.Tasks[0].Threshold = 64, 64 }, api.ErrRange},
		{"priority and threshold -1", func(c *api.Config) { c.Tasks[0].Priority, c.Tasks[0].Threshold = -1, -1 }, api.ErrRange},
		{"priority and threshold 0", func(c *api.Config) { c.Tasks[0].Priority, c.Tasks[0].Threshold = 0, 0 }, api.OK},
		{"period and deadline 1", func(c *api.Config) { c.Tasks[0].Period, c.Tasks[0].Deadline = 1, 1 }, api.OK},
		{"period 1, deadline 2", func(c *api.Config) { c.Tasks[0].Period, c.Tasks[0].Deadline = 1, 2 }, api.ErrRange},
		{"period and deadline 0", func(c *api.Config) { c.Tasks[0].Period, c.Tasks[0].Deadline = 0, 0 }, api.ErrRange},
		{"period and deadline 2^20", func(c *api.Config) { c.Tasks[0].Period, c.Tasks[0].Deadline = 1<<20, 1<<20 }, api.OK},
		{"period and deadline above 2^20", func(c *api.Config) { c.Tasks[0].Period, c.Tasks[0].Deadline = 1<<20+1, 1<<20+1 }, api.ErrRange},
		{"a ceiling of 0, which nobody locks", func(c *api.Config) { c.Ceilings = []int{0} }, api.OK},
		{"a ceiling below 0", func(c *api.Config) { c.Ceilings = []int{-1} }, api.ErrRange},
		{"a ceiling above 63", func(c *api.Config) { c.Ceilings = []int{0, 64} }, api.ErrRange},
		{"a line of the next task that isn't", func(c *api.Config) { c.Lines = []int{1} }, api.ErrRange},
		{"a line of the only task", func(c *api.Config) { c.Lines = []int{0} }, api.OK},
		{"a line below 0", func(c *api.Config) { c.Lines = []int{0, -1} }, api.ErrRange},
	} {
		c := small()
		x.with(&c)
		want(t, x.name, c, x.e)
	}
}

func TestGroups(t *testing.T) {
	for n, e := range map[int]api.Errno{math.MinInt: api.ErrArg, -1: api.ErrArg, 0: api.OK, 1: api.OK, 4: api.OK, 5: api.ErrMany, math.MaxInt: api.ErrMany} {
		c := small()
		c.Groups = n
		want(t, fmt.Sprint("groups ", n), c, e)
	}
}

func TestHowMany(t *testing.T) {
	for _, x := range []struct {
		name string
		of   func(c *api.Config) *[]int
		most int
	}{
		{"mailboxes", func(c *api.Config) *[]int { return &c.Mailboxes }, 4},
		{"counts", func(c *api.Config) *[]int { return &c.Counts }, 4},
		{"ceilings", func(c *api.Config) *[]int { return &c.Ceilings }, 4},
		{"lines", func(c *api.Config) *[]int { return &c.Lines }, 8},
	} {
		filling := 1
		if x.name == "lines" {
			filling = 0
		}
		for n := range x.most + 3 {
			c := small()
			*x.of(&c) = slices.Repeat([]int{filling}, n)
			e := api.OK
			if n > x.most {
				e = api.ErrMany
			}
			want(t, fmt.Sprint(n, " ", x.name), c, e)
		}
	}
	for n := range 11 {
		c := small()
		c.Tasks = nil
		for i := range n {
			task := small().Tasks[0]
			task.Priority, task.Threshold = 7*i, 63
			c.Tasks = append(c.Tasks, task)
		}
		e := api.OK
		switch {
		case n == 0:
			e = api.ErrArg
		case n > 8:
			e = api.ErrMany
		}
		want(t, fmt.Sprint(n, " tasks"), c, e)
	}
	c := small()
	c.Tasks = []api.Task{}
	want(t, "empty tasks", c, api.ErrArg)
}

func TestPrograms(t *testing.T) {
	for _, x := range []struct {
		text string
		e    api.Errno
	}{
		{"compute 1000;access 255;send 1 255;recv 0;set 2 0;clear 0 1;test 2 255;give 2;take 0;lock 1;unlock 1", api.OK},
		{"compute 1001", api.ErrRange},
		{"access 256", api.ErrRange},
		{"send 2 0", api.ErrRange},
		{"recv 2", api.ErrRange},
		{"set 3 0", api.ErrRange},
		{"give 3", api.ErrRange},
		{"lock 2;unlock 2", api.ErrRange},
		{"enter", api.ErrNest},
		{"lock 0", api.ErrNest},
		{"pop 1", api.ErrNest},
		{"lock 1;compute 0;unlock 1", api.ErrRange},
	} {
		for i := range 3 {
			c := whole()
			c.Ceilings = []int{63, 63}
			l, e := prog.Parse(x.text)
			if e != api.OK {
				t.Fatal(x.text, e)
			}
			c.Tasks[i].Program = l
			want(t, fmt.Sprint("task ", i, " with ", x.text), c, x.e)
		}
	}
	c := whole()
	for name, x := range map[string]struct {
		l []api.Op
		e api.Errno
	}{
		"nil":             {nil, api.ErrArg},
		"empty":           {[]api.Op{}, api.ErrArg},
		"of another kind": {[]api.Op{op(16)}, api.ErrArg},
		"of 64":           {slices.Repeat([]api.Op{op(api.OpRecv, 1)}, 64), api.OK},
		"of 65":           {slices.Repeat([]api.Op{op(api.OpRecv, 1)}, 65), api.ErrMany},
	} {
		c.Tasks[1].Program = x.l
		want(t, "a program "+name, c, x.e)
	}
}

func TestCeilingsBelowPriorities(t *testing.T) {
	for ceiling := range 64 {
		for priority := range 64 {
			c := small()
			c.Ceilings = []int{63, ceiling}
			c.Tasks[0].Priority, c.Tasks[0].Threshold = priority, 63
			c.Tasks[0].Program = []api.Op{op(api.OpLock, 0), op(api.OpLock, 1), op(api.OpUnlock, 1), op(api.OpUnlock, 0)}
			e := api.OK
			if ceiling < priority {
				e = api.ErrNest
			}
			want(t, fmt.Sprint("ceiling ", ceiling, ", priority ", priority), c, e)
			c.Tasks[0].Program = []api.Op{op(api.OpLock, 0), op(api.OpUnlock, 0), op(api.OpCompute, 1)}
			want(t, fmt.Sprint("not locked: ceiling ", ceiling, ", priority ", priority), c, api.OK)
		}
	}
}

func TestLikePriorities(t *testing.T) {
	for i := range 3 {
		for j := range 3 {
			c := whole()
			c.Tasks[2].Program, c.Tasks[1].Program, c.Tasks[0].Program = small().Tasks[0].Program, small().Tasks[0].Program, small().Tasks[0].Program
			c.Tasks[j].Priority, c.Tasks[j].Threshold = c.Tasks[i].Priority, 63
			e := api.OK
			if i != j {
				e = api.ErrTwice
			}
			want(t, fmt.Sprint("task ", j, " has the priority of ", i), c, e)
		}
	}
}

// TestWhichErrorIsFirst: of two faults the one that the chapter names first is told. The faults stand here in the chapter's order; those of one rank are told alike.
func TestWhichErrorIsFirst(t *testing.T) {
	faults := []struct {
		name string
		with func(c *api.Config)
		e    api.Errno
	}{
		{"sets", func(c *api.Config) { c.Machine.Sets = 0 }, api.ErrRange},
		{"miss", func(c *api.Config) { c.Machine.Miss = 101 }, api.ErrRange},
		{"many mailboxes", func(c *api.Config) { c.Mailboxes = append(c.Mailboxes, 1, 1, 1) }, api.ErrMany},
		{"many counts", func(c *api.Config) { c.Counts = append(c.Counts, 1, 1) }, api.ErrMany},
		{"many ceilings", func(c *api.Config) { c.Ceilings = append(c.Ceilings, 9, 9, 9) }, api.ErrMany},
		{"many lines", func(c *api.Config) { c.Lines = append(c.Lines, 0, 0, 0, 0, 0, 0) }, api.ErrMany},
		{"many tasks", func(c *api.Config) {
			for range 6 {
				c.Tasks = append(c.Tasks, small().Tasks[0])
			}
		}, api.ErrMany},
		{"groups below 0", func(c *api.Config) { c.Groups = -1 }, api.ErrArg},
		{"a mailbox without room", func(c *api.Config) { c.Mailboxes[0] = 0 }, api.ErrRange},
		{"a count above the most", func(c *api.Config) { c.Counts[2] = 9 }, api.ErrRange},
		{"a ceiling below 0", func(c *api.Config) { c.Ceilings[1] = -1 }, api.ErrRange},
		{"a line of no task", func(c *api.Config) { c.Lines[1] = -1 }, api.ErrRange},
		{"the first task's float", func(c *api.Config) { c.Tasks[0].Float = -1 }, api.ErrRange},
		{"the first task's program, too many", func(c *api.Config) {
			c.Tasks[0].Program = append(c.Tasks[0].Program, slices.Repeat([]api.Op{op(99)}, 60)...)
		}, api.ErrMany},
		{"the first task's program, of another kind", func(c *api.Config) { c.Tasks[0].Program[4] = op(99) }, api.ErrArg},
		{"a ceiling below the first task's priority", func(c *api.Config) { c.Ceilings[1] = min(c.Ceilings[1], 4) }, api.ErrNest},
		{"the second task's period", func(c *api.Config) { c.Tasks[1].Period = 0 }, api.ErrRange},
		{"the second task's program", func(c *api.Config) { c.Tasks[1].Program[0] = op(0) }, api.ErrArg},
		{"a ceiling below the second task's priority", func(c *api.Config) {
			c.Tasks[1].Program = append(c.Tasks[1].Program, op(api.OpLock, 1), op(api.OpUnlock, 1))
		}, api.ErrNest},
		{"the second task has the first one's priority", func(c *api.Config) { c.Tasks[1].Priority = 5 }, api.ErrTwice},
		{"the third task's threshold", func(c *api.Config) { c.Tasks[2].Threshold = 64 }, api.ErrRange},
		{"the third task's program", func(c *api.Config) { c.Tasks[2].Program[0].B = 1 }, api.ErrRange},
	}
	for i, first := range faults {
		c := whole()
		first.with(&c)
		want(t, first.name, c, first.e)
		for _, second := range faults[i+1:] {
			if first.name == "a ceiling below the second task's priority" && second.e == api.ErrTwice {
				continue // a priority of 5 is not above that ceiling
			}
			c := whole()
			first.with(&c)
			second.with(&c)
			want(t, first.name+" and "+second.name, c, first.e)
		}
	}
}

func TestNoTasksIsAskedBehindHowMany(t *testing.T) {
	for name, x := range map[string]struct {
		c api.Config
		e api.Errno
	}{
		"nothing at all":                  {api.Config{}, api.ErrRange},
		"a machine":                       {api.Config{Machine: small().Machine}, api.ErrArg},
		"a machine and five counts":       {api.Config{Machine: small().Machine, Counts: []int{1, 1, 1, 1, 1}}, api.ErrMany},
		"a machine and a count too great": {api.Config{Machine: small().Machine, Counts: []int{9}}, api.ErrArg},
		"a machine and a line":            {api.Config{Machine: small().Machine, Lines: []int{0}}, api.ErrArg},
	} {
		want(t, name, x.c, x.e)
	}
}

func TestLocksAreAskedAheadOfLikePriorities(t *testing.T) {
	c := whole()
	c.Tasks[1].Priority, c.Tasks[1].Program = 5, []api.Op{op(api.OpLock, 0), op(api.OpUnlock, 0)}
	c.Tasks[0].Program = small().Tasks[0].Program
	want(t, "like priorities", c, api.ErrTwice)
	c.Ceilings[0] = 4
	want(t, "like priorities and a ceiling below them", c, api.ErrNest)
}

func TestRoom(t *testing.T) {
	if r := Room(whole()); r != (prog.Room{Mailboxes: 2, Groups: 3, Counts: 3, Ceilings: 2}) {
		t.Error(r)
	}
	if r := Room(small()); r != (prog.Room{}) {
		t.Error(r)
	}
	c := api.Config{Mailboxes: make([]int, 9), Groups: 11, Counts: make([]int, 12), Ceilings: make([]int, 13)}
	if r := Room(c); r != (prog.Room{Mailboxes: 9, Groups: 11, Counts: 12, Ceilings: 13}) {
		t.Error(r)
	}
}

func TestSame(t *testing.T) {
	whole, changed := whole(), []func(c *api.Config){
		func(c *api.Config) { c.Mailboxes = append(c.Mailboxes, 1) },
		func(c *api.Config) { c.Mailboxes = nil },
		func(c *api.Config) { c.Counts = c.Counts[:2] },
		func(c *api.Config) { c.Ceilings = append(c.Ceilings, 5) },
		func(c *api.Config) { c.Lines = c.Lines[1:] },
		func(c *api.Config) { c.Tasks = c.Tasks[:2] },
		func(c *api.Config) { c.Tasks = nil },
		func(c *api.Config) { c.Tasks = append(c.Tasks, api.Task{}) },
		func(c *api.Config) { c.Tasks[0], c.Tasks[1] = c.Tasks[1], c.Tasks[0] },
		func(c *api.Config) { c.Tasks[2].Program = nil },
		func(c *api.Config) { c.Tasks[1].Program = c.Tasks[1].Program[:5] },
		func(c *api.Config) { c.Tasks[1].Program = append(c.Tasks[1].Program, api.Op{}) },
		func(c *api.Config) { c.Tasks[1].Program[3].Kind++ },
		func(c *api.Config) { c.Tasks[1].Program[0].A++ },
		func(c *api.Config) { c.Tasks[1].Program[0].B++ },
		func(c *api.Config) { c.Tasks[1].Priority++ },
		func(c *api.Config) { c.Tasks[1].Threshold++ },
		func(c *api.Config) { c.Tasks[1].Period++ },
		func(c *api.Config) { c.Tasks[1].Deadline++ },
	}
	for _, p := range places() {
		changed = append(changed, func(c *api.Config) { *p.at(c)++ })
	}
	if !Same(whole, twin(whole)) || !Same(small(), small()) || !Same(api.Config{}, api.Config{}) || Same(whole, small()) {
		t.Error("like ones are told apart, or others aren't")
	}
	for i, change := range changed {
		c := twin(whole)
		change(&c)
		if Same(whole, c) || Same(c, whole) {
			t.Errorf("change %d isn't seen: %s", i, told(c))
		}
		if !Same(c, twin(c)) {
			t.Errorf("change %d: not the same as its twin: %s", i, told(c))
		}
	}
}

func TestNilAndEmptyAreTheSame(t *testing.T) {
	empty := api.Config{Mailboxes: []int{}, Counts: []int{}, Ceilings: []int{}, Tasks: []api.Task{}, Lines: []int{}}
	if !Same(empty, api.Config{}) || !Same(api.Config{}, empty) {
		t.Error("an empty configuration isn't a nil one")
	}
	a, b := small(), small()
	a.Tasks[0].Program, b.Tasks[0].Program = nil, []api.Op{}
	if !Same(a, b) || !Same(b, a) {
		t.Error("an empty program isn't a nil one")
	}
}

func TestOrder(t *testing.T) {
	for _, x := range []struct{ priorities, want []int }{
		{nil, nil},
		{[]int{3}, []int{0}},
		{[]int{1, 2}, []int{1, 0}},
		{[]int{2, 1}, []int{0, 1}},
		{[]int{5, 9, 0}, []int{1, 0, 2}},
		{[]int{4, 4, 4}, []int{0, 1, 2}},
		{[]int{1, 7, 1, 7, 3}, []int{1, 3, 4, 0, 2}},
		{[]int{math.MinInt, math.MaxInt, 0, -1, math.MaxInt}, []int{1, 4, 2, 3, 0}},
		{[]int{0, 63, 5, 62, 1, 61, 2, 60, 5, 64, -3}, []int{9, 1, 3, 5, 7, 2, 8, 6, 4, 0, 10}},
	} {
		var c api.Config
		for _, n := range x.priorities {
			c.Tasks = append(c.Tasks, api.Task{Priority: n})
		}
		before := told(c)
		if got := Order(c); !slices.Equal(got, x.want) {
			t.Errorf("Order of %v is %v, want %v", x.priorities, got, x.want)
		}
		if told(c) != before {
			t.Errorf("%v: changed", x.priorities)
		}
	}
	many := api.Config{}
	for i := range 500 {
		many.Tasks = append(many.Tasks, api.Task{Priority: i % 7, Threshold: i})
	}
	l := Order(many)
	for i := 1; i < len(l); i++ {
		a, b := many.Tasks[l[i-1]].Priority, many.Tasks[l[i]].Priority
		if a < b || a == b && l[i-1] >= l[i] {
			t.Fatalf("%d stands ahead of %d", l[i-1], l[i])
		}
	}
}
