package ready

import (
	"math"
	"slices"
	"testing"

	"signalbox/api"
	"signalbox/conf"
)

// config has tasks of these priorities.
func config(priorities ...int) api.Config {
	c := api.Config{Machine: api.Machine{Sets: 1, Ways: 1, Hit: 1, Miss: 1}}
	for _, p := range priorities {
		c.Tasks = append(c.Tasks, api.Task{
			Priority: p, Threshold: p, Period: 9, Deadline: 9,
			Program: []api.Op{{Kind: api.OpCompute, A: 5}},
		})
	}
	return c
}

// model is as plain as can be: the tasks' priorities, all jobs that wait, as they came, and how often each task came.
type model struct {
	priorities []int
	jobs       []Job
	came       []int
}

func (m *model) waiting(task int) []Job {
	var l []Job
	for _, j := range m.jobs {
		if j.Task == task {
			l = append(l, j)
		}
	}
	return l
}

func (m *model) release(task, at int) (Job, api.Errno) {
	if task < 0 || task >= len(m.priorities) {
		return Job{}, api.ErrNone
	}
	j := Job{task, m.came[task], at}
	m.came[task]++
	if len(m.waiting(task)) >= 4 {
		return j, api.ErrFull
	}
	m.jobs = append(m.jobs, j)
	return j, api.OK
}

// first is where the next one stands; -1 if none waits.
func (m *model) first() int {
	at := -1
	for i, j := range m.jobs {
		if at < 0 || m.priorities[j.Task] > m.priorities[m.jobs[at].Task] {
			at = i
		}
	}
	return at
}

// made are one with tasks of these priorities, and its model.
func made(t *testing.T, priorities ...int) (*Ready, *model) {
	t.Helper()
	r, e := New(config(priorities...))
	if r == nil || e != api.OK {
		t.Fatal(priorities, e)
	}
	return r, &model{priorities: priorities, came: make([]int, len(priorities))}
}

// outside are numbers that none of so many tasks has.
func outside(count int) []int {
	return []int{math.MinInt, -1 << 32, -2, -1, count, count + 1, 1 << 32, math.MaxInt}
}

// compare asks all that leaves it as it is.
func compare(t *testing.T, r *Ready, m *model) {
	t.Helper()
	if r.Len() != len(m.jobs) {
		t.Fatalf("Len %d, want %d", r.Len(), len(m.jobs))
	}
	for task := range m.priorities {
		if got, want := r.Waiting(task), m.waiting(task); !slices.Equal(got, want) {
			t.Fatalf("Waiting(%d): %v, want %v", task, got, want)
		}
	}
	for _, task := range outside(len(m.priorities)) {
		if got := r.Waiting(task); len(got) > 0 {
			t.Fatalf("Waiting(%d): %v", task, got)
		}
	}
	got, priority, ok := r.First()
	if at := m.first(); at < 0 {
		if got != (Job{}) || priority != 0 || ok {
			t.Fatalf("First of none: %v, %d, %t", got, priority, ok)
		}
	} else if want := m.jobs[at]; got != want || priority != m.priorities[want.Task] || !ok {
		t.Fatalf("First: %v, %d, %t, want %v", got, priority, ok, want)
	}
}

// release and take make a call, and hold its answer and all else against the model's.
func release(t *testing.T, r *Ready, m *model, task, at int) {
	t.Helper()
	got, e := r.Release(task, at)
	if want, wantError := m.release(task, at); got != want || e != wantError {
		t.Fatalf("Release(%d, %d): %v, %d, want %v, %d", task, at, got, e, want, wantError)
	}
	compare(t, r, m)
}

func take(t *testing.T, r *Ready, m *model) {
	t.Helper()
	got, ok := r.Take()
	if at := m.first(); at < 0 {
		if got != (Job{}) || ok {
			t.Fatalf("Take of none: %v, %t", got, ok)
		}
	} else {
		if got != m.jobs[at] || !ok {
			t.Fatalf("Take: %v, %t, want %v", got, ok, m.jobs[at])
		}
		m.jobs = slices.Delete(m.jobs, at, at+1)
	}
	compare(t, r, m)
}

func TestExample(t *testing.T) {
	r, e := New(config(1, 4))
	if e != api.OK {
		t.Fatal(e)
	}
	for task := range 2 {
		if j, e := r.Release(task, 7); j != (Job{task, 0, 7}) || e != api.OK {
			t.Error(j, e)
		}
	}
	if j, priority, ok := r.First(); j != (Job{1, 0, 7}) || priority != 4 || !ok {
		t.Error(j, priority, ok)
	}
	if r.Len() != 2 {
		t.Error(r.Len())
	}
}

func TestHighestFirst(t *testing.T) {
	r, m := made(t, 5, 63, 0, 7)
	take(t, r, m)
	for _, task := range []int{2, 0, 0, 1, 3, 1, 2} {
		release(t, r, m, task, 10+task)
	}
	for range 9 { // two more than wait
		take(t, r, m)
	}
	release(t, r, m, 2, 1) // what went out once may come again
	release(t, r, m, 0, 2)
	take(t, r, m)
	take(t, r, m)
}

// TestNumbers: a job that can't wait uses its number up.
func TestNumbers(t *testing.T) {
	r, m := made(t, 3, 8)
	for at := range 4 {
		release(t, r, m, 0, at)
	}
	for at := range 3 {
		if j, e := r.Release(0, 50+at); j != (Job{0, 4 + at, 50 + at}) || e != api.ErrFull {
			t.Error(j, e)
		}
		m.came[0]++
		compare(t, r, m)
	}
	release(t, r, m, 1, 60) // the other one has room, and numbers of its own
	take(t, r, m)
	release(t, r, m, 0, 70)
	take(t, r, m)
	if j, e := r.Release(0, 80); j != (Job{0, 8, 80}) || e != api.OK {
		t.Error(j, e)
	}
}

func TestAnyTick(t *testing.T) {
	r, m := made(t, 9)
	for _, at := range []int{math.MaxInt, -1, 0, math.MinInt, 1 << 32} {
		release(t, r, m, 0, at)
	}
	for range 5 {
		take(t, r, m)
	}
}

func TestNoSuchTask(t *testing.T) {
	for _, priorities := range [][]int{{4}, {1, 2, 3}, {7, 6, 5, 4, 3, 2, 1, 0}} {
		r, m := made(t, priorities...)
		for _, task := range outside(len(priorities)) {
			release(t, r, m, task, 3)
		}
		release(t, r, m, len(priorities)-1, 3)
		for _, task := range outside(len(priorities)) {
			release(t, r, m, task, 4)
		}
		take(t, r, m)
	}
}

func TestAllPriorities(t *testing.T) {
	for p := 0; p <= api.MaxPriority; p++ {
		r, m := made(t, p, (p+1)%64, (p+31)%64)
		for task := range 3 {
			release(t, r, m, task, p)
		}
		for range 4 {
			take(t, r, m)
		}
	}
}

func TestAllTasksFull(t *testing.T) {
	r, m := made(t, 10, 20, 30, 40, 15, 25, 35, 45)
	for at := range 5 {
		for task := range 8 {
			release(t, r, m, task, at)
		}
	}
	if r.Len() != 32 {
		t.Error(r.Len())
	}
	for range 33 {
		take(t, r, m)
	}
}

func TestNoConfiguration(t *testing.T) {
	tooManySets := config(1)
	tooManySets.Machine.Sets = 17
	nest := config(5)
	nest.Ceilings = []int{4}
	nest.Tasks[0].Program = []api.Op{{Kind: api.OpLock}, {Kind: api.OpUnlock}}
	for name, c := range map[string]api.Config{
		"nothing":           {},
		"no task":           config(),
		"nine tasks":        config(1, 2, 3, 4, 5, 6, 7, 8, 9),
		"a priority twice":  config(1, 2, 1),
		"a priority of 64":  config(64),
		"too many sets":     tooManySets,
		"a ceiling too low": nest,
	} {
		want := conf.Check(c)
		if want == api.OK {
			t.Fatalf("%s may be", name)
		}
		if r, e := New(c); r != nil || e != want {
			t.Errorf("%s: %v, %d, want %d", name, r, e, want)
		}
	}
}

func TestNothingIsKeptOrShared(t *testing.T) {
	c := config(1, 4)
	before := config(1, 4)
	r, _ := New(c)
	m := &model{priorities: []int{1, 4}, came: []int{0, 0}}
	c.Tasks[0].Priority, c.Tasks[1].Priority = 60, 2
	release(t, r, m, 0, 1)
	release(t, r, m, 1, 2)
	release(t, r, m, 1, 3)

	l := r.Waiting(1)
	l[0], l[1] = Job{}, Job{9, 9, 9}
	compare(t, r, m)
	l = r.Waiting(1)
	take(t, r, m)
	release(t, r, m, 1, 4)
	if want := []Job{{1, 0, 2}, {1, 1, 3}}; !slices.Equal(l, want) {
		t.Error(l)
	}

	same := config(1, 4)
	New(same)
	if !conf.Same(same, before) {
		t.Error("the configuration is changed")
	}
}

func TestTheyStandForThemselves(t *testing.T) {
	r, m := made(t, 1, 4)
	other, n := made(t, 4, 1)
	release(t, r, m, 0, 1)
	compare(t, other, n)
	release(t, other, n, 1, 2)
	release(t, other, n, 0, 3)
	compare(t, r, m)
	take(t, r, m)
	compare(t, other, n)
}

func TestCallsInAnyOrder(t *testing.T) {
	seed := uint32(16)
	draw := func(n int) int {
		seed = seed*1664525 + 1013904223
		return int(seed>>8) % n
	}
	for range 100 {
		first := draw(64)
		var priorities []int
		for i := range 1 + draw(8) {
			priorities = append(priorities, (first+i*(2*draw(1)+7))%64)
		}
		r, m := made(t, priorities...)
		for at := range 200 {
			if draw(5) < 3 {
				release(t, r, m, draw(len(priorities)+2)-1, at)
			} else {
				take(t, r, m)
			}
		}
	}
}

func TestNil(t *testing.T) {
	for name, one := range map[string]struct {
		r    *Ready
		want api.Errno
	}{
		"nil":                      {nil, api.ErrArg},
		"one that New didn't make": {&Ready{}, api.ErrNone},
	} {
		for _, n := range outside(0) {
			if j, e := one.r.Release(n, n); j != (Job{}) || e != one.want {
				t.Errorf("%s: Release of %d: %v, %d", name, n, j, e)
			}
		}
		if j, ok := one.r.Take(); j != (Job{}) || ok {
			t.Errorf("%s: Take: %v, %t", name, j, ok)
		}
		compare(t, one.r, &model{})
	}
}
