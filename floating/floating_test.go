package floating

import (
	"math"
	"slices"
	"testing"

	"signalbox/admit"
	"signalbox/api"
	"signalbox/conf"
	"signalbox/cost"
	"signalbox/monitor"
	"signalbox/play"
	"signalbox/prog"
	"signalbox/script"
)

// program is a text's, which must be one.
func program(s string) []api.Op {
	l, e := prog.Parse(s)
	if e != api.OK {
		panic(s)
	}
	return l
}

// long is a program that takes so many thousands of ticks.
func long(thousands int) []api.Op {
	return slices.Repeat([]api.Op{{Kind: api.OpCompute, A: 1000}}, thousands)
}

// task is one of a priority, which is its Threshold, too.
func task(priority, period, deadline int, text string) api.Task {
	return api.Task{Priority: priority, Threshold: priority, Period: period, Deadline: deadline, Program: program(text)}
}

// up is a task with a Threshold of its own.
func up(threshold int, t api.Task) api.Task {
	t.Threshold = threshold
	return t
}

// holding is a task with a Float.
func holding(float int, t api.Task) api.Task {
	t.Float = float
	return t
}

// of is a configuration of tasks; all else of it may be.
func of(tasks ...api.Task) api.Config {
	return api.Config{
		Machine:   api.Machine{Sets: 2, Ways: 2, Hit: 2, Miss: 10},
		Mailboxes: []int{2},
		Groups:    1,
		Counts:    []int{3},
		Ceilings:  []int{20, 40},
		Tasks:     tasks,
		Lines:     []int{0},
	}
}

// three are tasks of which the middle one bears 7 ticks of the lowest one, and the highest one 5 ticks of those.
func three() api.Config {
	return of(task(2, 90, 90, "compute 30"), task(5, 90, 20, "compute 10"), task(9, 90, 8, "compute 3"))
}

// copied is a configuration that shares nothing with another one.
func copied(c api.Config) api.Config {
	c.Mailboxes = append([]int(nil), c.Mailboxes...)
	c.Counts = append([]int(nil), c.Counts...)
	c.Ceilings = append([]int(nil), c.Ceilings...)
	c.Lines = append([]int(nil), c.Lines...)
	tasks := append([]api.Task(nil), c.Tasks...)
	for i := range tasks {
		tasks[i].Program = append([]api.Op(nil), tasks[i].Program...)
	}
	c.Tasks = tasks
	return c
}

// with is a configuration with a float, made by hand.
func with(c api.Config, task, float int) api.Config {
	c = copied(c)
	c.Tasks[task].Float = float
	return c
}

// spoil changes all that a configuration refers to.
func spoil(c api.Config) {
	clear(c.Mailboxes)
	clear(c.Counts)
	clear(c.Ceilings)
	for i := range c.Lines {
		c.Lines[i] = 7
	}
	for _, t := range c.Tasks {
		clear(t.Program)
	}
	clear(c.Tasks)
}

// nobody are numbers of which three tasks have none.
func nobody() []int {
	return []int{math.MinInt, -1 << 32, -3, -1, 3, 4, 8, 1 << 32, math.MaxInt}
}

func TestWith(t *testing.T) {
	for _, float := range []int{0, 1, 7, 1 << 20, 1<<20 + 1, -1, math.MinInt, math.MaxInt} { // also one that may not be
		for i := range 3 {
			c := three()
			c.Tasks[i].Float = 4
			was := copied(c)
			got := With(c, i, float)
			if !conf.Same(got, with(was, i, float)) {
				t.Errorf("task %d, %d: %v", i, float, got)
			}
			spoil(got)
			if !conf.Same(c, was) {
				t.Errorf("task %d, %d: %v is changed: %v", i, float, was, c)
			}
			got = With(c, i, float)
			spoil(c)
			if !conf.Same(got, with(was, i, float)) {
				t.Errorf("task %d, %d: what was told is changed: %v", i, float, got)
			}
		}
	}
}

func TestWithOfNoTask(t *testing.T) {
	for _, none := range nobody() {
		c := three()
		got := With(c, none, 5)
		if !conf.Same(got, three()) {
			t.Errorf("%d: %v", none, got)
		}
		spoil(got)
		if !conf.Same(c, three()) {
			t.Errorf("%d: %v is changed: %v", none, three(), c)
		}
		if got := With(api.Config{}, none, 5); !conf.Same(got, api.Config{}) {
			t.Errorf("%d: %v", none, got)
		}
	}
	if got := With(api.Config{}, 0, 5); !conf.Same(got, api.Config{}) {
		t.Error(got)
	}
}

// told is what Most tells of a task.
type told struct {
	most int
	ok   bool
}

// all is Most of each task.
func all(c api.Config) []told {
	var l []told
	for i := range c.Tasks {
		most, ok := Most(c, i)
		l = append(l, told{most, ok})
	}
	return l
}

func TestMost(t *testing.T) {
	const any = api.MaxPeriod
	no := told{0, false}
	for _, m := range []struct {
		name  string
		tasks []api.Task
		want  []told
	}{
		{"one alone", []api.Task{task(1, 10, 5, "compute 5")}, []told{{any, true}}},
		{"one alone, whatever it has", []api.Task{holding(math.MinInt, task(1, 10, 5, "compute 5"))}, []told{{any, true}}},
		{"one alone, late", []api.Task{task(1, 10, 5, "compute 6")}, []told{no}},
		{"three", three().Tasks, []told{{5, true}, {5, true}, {any, true}}},
		{"the middle one bears less", []api.Task{task(2, 90, 90, "compute 30"), task(5, 90, 17, "compute 10"), task(9, 90, 8, "compute 3")}, []told{{4, true}, {5, true}, {any, true}}},
		{"in another order", []api.Task{task(9, 90, 8, "compute 3"), task(2, 90, 90, "compute 30"), task(5, 90, 17, "compute 10")}, []told{{any, true}, {4, true}, {5, true}}},
		{"no longer than what is borne", []api.Task{task(1, 90, 90, "compute 7"), task(2, 90, 10, "compute 3")}, []told{{any, true}, {any, true}}},
		{"a tick longer", []api.Task{task(1, 90, 90, "compute 8"), task(2, 90, 10, "compute 3")}, []told{{7, true}, {any, true}}},
		{"nothing is borne", []api.Task{task(1, 90, 90, "compute 8"), task(2, 90, 3, "compute 3")}, []told{{0, true}, {any, true}}},
		{"one tick is borne", []api.Task{task(1, 90, 90, "compute 8"), task(2, 90, 4, "compute 3")}, []told{{1, true}, {any, true}}},
		{"one that isn't displaced", []api.Task{up(2, task(1, 90, 90, "compute 7")), task(2, 90, 10, "compute 3")}, []told{{any, true}, {any, true}}},
		{"one that isn't displaced, too long", []api.Task{up(2, task(1, 90, 90, "compute 8")), task(2, 90, 10, "compute 3")}, []told{no, no}},
		{"a region", []api.Task{task(1, 90, 90, "compute 9;enter;exit"), task(2, 90, 10, "compute 3")}, []told{{3, true}, {any, true}}}, // on both sides of what is withheld
		{"a longer region", []api.Task{task(1, 90, 90, "compute 9;enter;compute 1;exit"), task(2, 90, 10, "compute 3")}, []told{{1, true}, {any, true}}},
		{"a region that goes with no float", []api.Task{task(1, 90, 90, "compute 9;enter;compute 2;exit"), task(2, 90, 10, "compute 3")}, []told{{0, true}, {any, true}}},
		{"the longest region that is borne", []api.Task{task(1, 90, 90, "compute 9;enter;compute 5;exit"), task(2, 90, 10, "compute 3")}, []told{{0, true}, {any, true}}},
		{"too long a region", []api.Task{task(1, 90, 90, "compute 9;enter;compute 6;exit"), task(2, 90, 10, "compute 3")}, []told{no, no}},
		{"a lock", []api.Task{task(1, 90, 90, "compute 9;lock 0;unlock 0"), task(20, 90, 10, "compute 3")}, []told{{3, true}, {any, true}}},
		{"a lock below the other one", []api.Task{task(1, 90, 90, "compute 9;lock 0;unlock 0"), task(21, 90, 10, "compute 3")}, []told{{7, true}, {any, true}}},
		{"the others' stay", []api.Task{holding(5, three().Tasks[0]), holding(5, three().Tasks[1]), holding(1<<20, three().Tasks[2])}, []told{{5, true}, {5, true}, {any, true}}},
		{"one withholds too long", []api.Task{holding(6, three().Tasks[0]), three().Tasks[1], three().Tasks[2]}, []told{{5, true}, no, no}},
		{"two do", []api.Task{holding(6, three().Tasks[0]), holding(6, three().Tasks[1]), three().Tasks[2]}, []told{no, no, no}},
		{"one has a float that may not be", []api.Task{three().Tasks[0], holding(-1, three().Tasks[1]), three().Tasks[2]}, []told{no, {5, true}, no}},
		{"one has a greater one than may be", []api.Task{three().Tasks[0], three().Tasks[1], holding(1<<20+1, three().Tasks[2])}, []told{no, no, {any, true}}},
		{"more than there is", []api.Task{task(1, 9, 9, "compute 1"), task(2, 1, 1, "compute 1")}, []told{no, no}},
	} {
		c := of(m.tasks...)
		was := copied(c)
		if got := all(c); !slices.Equal(got, m.want) {
			t.Errorf("%s: %v, want %v", m.name, got, m.want)
		}
		if !conf.Same(c, was) {
			t.Errorf("%s: %v is changed: %v", m.name, was, c)
		}
		l, ok := All(c)
		if slices.Contains(m.want, no) {
			if ok || len(l) != 0 {
				t.Errorf("%s: all %v, %v", m.name, l, ok)
			}
			continue
		}
		if !ok || len(l) != len(m.want) {
			t.Fatalf("%s: all %v, %v", m.name, l, ok)
		}
		for i, most := range l {
			if most != m.want[i].most {
				t.Errorf("%s: all %v, want %v", m.name, l, m.want)
			}
		}
		clear(l) // which the next call doesn't see
		if again, _ := All(c); len(again) != len(l) || again[0] != m.want[0].most {
			t.Errorf("%s: again %v", m.name, again)
		}
	}
}

// TestGreatFloats: of programs as long as may be.
func TestGreatFloats(t *testing.T) {
	for _, borne := range []int{0, 1, 2, 31999, 32767, 32768, 63998, 63999, 64000, 64001, 1<<20 - 1000} {
		c := of(task(1, 1<<20, 1<<20, "compute 1"), task(2, 1<<20, 1000+borne, "compute 1"))
		c.Tasks[0].Program, c.Tasks[1].Program = long(64), long(1)
		want := borne
		if borne >= 64000 {
			want = api.MaxPeriod
		}
		if got := all(c); !slices.Equal(got, []told{{want, true}, {api.MaxPeriod, true}}) {
			t.Errorf("%d is borne: %v", borne, got)
		}
	}
}

func TestMostOfNoTask(t *testing.T) {
	for _, none := range nobody() {
		if most, ok := Most(three(), none); most != 0 || ok {
			t.Errorf("%d: %d, %v", none, most, ok)
		}
		if most, ok := Most(api.Config{}, none); most != 0 || ok {
			t.Errorf("%d of none: %d, %v", none, most, ok)
		}
	}
	if most, ok := Most(api.Config{}, 0); most != 0 || ok {
		t.Error(most, ok)
	}
}

// TestAllOfNoTasks: none of them is late.
func TestAllOfNoTasks(t *testing.T) {
	empty := three()
	empty.Tasks, empty.Lines = nil, nil
	for _, c := range []api.Config{{}, empty} {
		if l, ok := All(c); !ok || len(l) != 0 {
			t.Errorf("%v: %v, %v", c, l, ok)
		}
	}
}

// TestOfWrongConfigurations: they aren't admitted, whatever the float is.
func TestOfWrongConfigurations(t *testing.T) {
	for name, change := range map[string]func(c *api.Config){
		"no sets":             func(c *api.Config) { c.Machine.Sets = 0 },
		"too many groups":     func(c *api.Config) { c.Groups = 5 },
		"too many tasks":      func(c *api.Config) { c.Tasks = append(c.Tasks, make([]api.Task, 6)...) },
		"a line of no task":   func(c *api.Config) { c.Lines = []int{3} },
		"a priority twice":    func(c *api.Config) { c.Tasks[0].Priority, c.Tasks[0].Threshold = 9, 9 },
		"a low threshold":     func(c *api.Config) { c.Tasks[1].Threshold = 4 },
		"no period":           func(c *api.Config) { c.Tasks[1].Period = 0 },
		"too late a deadline": func(c *api.Config) { c.Tasks[1].Deadline = 91 },
		"no program":          func(c *api.Config) { c.Tasks[1].Program = nil },
		"no operation":        func(c *api.Config) { c.Tasks[1].Program = []api.Op{{Kind: 99}} },
		"a region not closed": func(c *api.Config) { c.Tasks[1].Program = program("enter") },
	} {
		c := three()
		change(&c)
		was := copied(c)
		for i, got := range all(c) {
			if got != (told{0, false}) {
				t.Errorf("%s, task %d: %v", name, i, got)
			}
		}
		if l, ok := All(c); ok || len(l) != 0 {
			t.Errorf("%s: %v, %v", name, l, ok)
		}
		if got := With(c, 0, 6); !conf.Same(got, with(was, 0, 6)) || !conf.Same(c, was) {
			t.Errorf("%s: %v of %v, was %v", name, got, c, was)
		}
	}
}

func TestFixed(t *testing.T) {
	for _, f := range []struct {
		text string
		want int
	}{
		{"compute 9", 0},
		{"compute 5;enter;compute 2;exit", 4},
		{"enter;exit", 2},
		{"enter;access 3;exit;compute 50;enter;compute 7;exit", 12}, // no access is found
		{"enter;compute 3;exit;compute 50;enter;compute 7;exit", 9},
		{"enter;compute 3;exit;enter;compute 7;exit", 14},
		{"enter;compute 3;enter;compute 7;exit;exit", 14},
		{"lock 1;compute 9;unlock 1", 0}, // a ceiling is below it
		{"lock 1;compute 9;enter;compute 2;exit;unlock 1", 4},
	} {
		for _, threshold := range []int{1, 63} {
			c := of(task(9, 90, 90, "enter;compute 80;exit"), up(threshold, task(1, 90, 90, f.text)))
			c.Tasks[1].Float = 33 // which isn't counted
			was := copied(c)
			if got := Fixed(c, 1); got != f.want || !conf.Same(c, was) {
				t.Errorf("%s, threshold %d: %d, want %d", f.text, threshold, got, f.want)
			}
		}
	}
	c := of(task(9, 90, 90, "enter;compute 80;exit"), task(1, 90, 90, "enter;exit"), task(2, 90, 90, "compute 1"))
	for _, none := range nobody() {
		if got := Fixed(c, none); got != 0 {
			t.Errorf("%d: %d", none, got)
		}
	}
	if got := Fixed(api.Config{}, 0); got != 0 {
		t.Error(got)
	}
}

// drawing is a row of numbers below n that look drawn.
func drawing(seed uint32) func(n int) int {
	return func(n int) int {
		seed = seed*1664525 + 1013904223
		return int(seed>>8) % n
	}
}

// drawn is a configuration that may be, of up to four tasks whose numbers don't rise with their priorities. It is admitted now and then.
func drawn(draw func(n int) int) api.Config {
	c := of()
	c.Lines = nil
	for i := range 1 + draw(4) {
		priority := 10*i + draw(10)
		t := up(min(priority+draw(2)*draw(25), 63), task(priority, 1, 1, "access 3"))
		for range draw(4) {
			switch draw(5) {
			case 0:
				t.Program = append(t.Program, program("enter;compute 3;exit")...)
			case 1:
				t.Program = append(t.Program, program("lock 1;compute 4;unlock 1")...)
			default:
				t.Program = append(t.Program, api.Op{Kind: api.OpCompute, A: 1 + draw(20)})
			}
		}
		t.Float = draw(2) * draw(20)
		t.Period = 200 + draw(150)
		c.Tasks = append(c.Tasks, t)
	}
	sum := 0
	for i := len(c.Tasks) - 1; i >= 0; i-- { // so that little more may be borne than what it must be
		sum += cost.Worst(c.Tasks[i].Program, c.Machine)
		c.Tasks[i].Deadline = min(sum+draw(40), c.Tasks[i].Period)
	}
	for i := len(c.Tasks) - 1; i > 0; i-- {
		other := draw(i + 1)
		c.Tasks[i], c.Tasks[other] = c.Tasks[other], c.Tasks[i]
	}
	return c
}

// TestAgainstEachFloat: what is told, and all that is less, is admitted, and nothing that is more.
func TestAgainstEachFloat(t *testing.T) {
	const longest = 200 // no program of these takes that long
	draw := drawing(30)
	between, whole, no := 0, 0, 0
	for range 300 {
		c := drawn(draw)
		was := copied(c)
		each := all(c)
		for i, got := range each {
			want := told{0, false}
			for float := range longest {
				may := admit.Admitted(with(c, i, float))
				if may && float == want.most+1 || may && float == 0 {
					want = told{float, true}
				} else if may {
					t.Fatalf("%v, task %d: admitted with %d, and not with less", c, i, float)
				}
			}
			if want.most == longest-1 {
				want.most = api.MaxPeriod
			}
			if got != want {
				t.Fatalf("%v, task %d: %v, want %v", c, i, got, want)
			}
			if admit.Admitted(with(c, i, api.MaxPeriod)) != (want.most == api.MaxPeriod) {
				t.Fatalf("%v, task %d: %v, and not so of the greatest", c, i, got)
			}
			switch {
			case !want.ok:
				no++
			case want.most == api.MaxPeriod:
				whole++
			default:
				between++
			}
		}
		l, ok := All(c)
		if ok == slices.Contains(each, told{0, false}) || !ok && len(l) != 0 {
			t.Fatalf("%v: all %v, %v, each %v", c, l, ok, each)
		}
		for i, most := range l {
			if each[i].most != most {
				t.Fatalf("%v: all %v, each %v", c, l, each)
			}
		}
		if !conf.Same(c, was) {
			t.Fatalf("%v is changed: %v", was, c)
		}
	}
	if between < 50 || whole < 50 || no < 50 {
		t.Errorf("only %d are between, %d as great as may be, %d none", between, whole, no)
	}
}

// TestRuns: with the greatest float that is told no job of a run is late, and nobody withholds for longer.
func TestRuns(t *testing.T) {
	draw := drawing(5)
	withheld := 0
	for range 300 {
		c := drawn(draw)
		task := draw(len(c.Tasks))
		most, ok := Most(c, task)
		if !ok {
			continue
		}
		c = With(c, task, most)
		r, _, e := play.Play(c, script.Periodic(c, 3000), 9000)
		if late := monitor.Late(c, r.Reports, r.Now); e != api.OK || len(r.Reports) == 0 || len(late) > 0 {
			t.Fatalf("%v: %d, late %v of %v", c, e, late, r.Reports)
		}
		for _, report := range r.Reports {
			if report.Withheld > c.Tasks[report.Task].Float {
				t.Fatalf("%v: %v", c, report)
			}
			if report.Task == task && report.Withheld > 0 {
				withheld++
			}
		}
	}
	if withheld < 20 {
		t.Errorf("only %d jobs withhold others", withheld)
	}
}
