package job

import (
	"math"
	"math/big"
	"slices"
	"testing"

	"signalbox/api"
)

// stretch is an operation that began, what it was to take, how long it did so far, and how much of that went by while the job was armed.
type stretch struct {
	op                 api.Op
	takes, gone, armed int
}

// model is a job as plain as can be: all that it did so far, from which the rest is worked out anew each time.
type model struct {
	task  api.Task
	done  []stretch
	armed bool
}

// under is the stretch that is under way, if one is.
func (m *model) under() *stretch {
	if last := len(m.done) - 1; last >= 0 && m.done[last].gone < m.done[last].takes {
		return &m.done[last]
	}
	return nil
}

func (m *model) rest() int {
	if s := m.under(); s != nil {
		return s.takes - s.gone
	}
	return 0
}

// pushed is what the operations so far have pushed, and whether one of them overran the frame.
func (m *model) pushed() (*big.Int, bool) {
	sum, fault := big.NewInt(0), false
	for _, s := range m.done {
		size := big.NewInt(int64(s.op.A))
		if s.op.Kind == 7 {
			sum.Add(sum, size)
			fault = fault || sum.Cmp(big.NewInt(int64(m.task.Frame))) > 0
		}
		if s.op.Kind == 8 {
			sum.Sub(sum, size)
			if sum.Sign() < 0 {
				sum.SetInt64(0)
			}
		}
	}
	return sum, fault
}

func (m *model) fault() bool {
	_, fault := m.pushed()
	return fault
}

func (m *model) open() bool {
	regions := 0
	for _, s := range m.done {
		if s.op.Kind == 3 {
			regions++
		}
		if s.op.Kind == 4 && regions > 0 {
			regions--
		}
	}
	return regions > 0
}

func (m *model) over() bool {
	return m.rest() == 0 && (m.fault() || len(m.done) == len(m.task.Program))
}

func (m *model) op() (api.Op, bool) {
	if m.rest() > 0 || m.over() {
		return api.Op{}, false
	}
	return m.task.Program[len(m.done)], true
}

func (m *model) at() int {
	if m.rest() > 0 {
		return len(m.done) - 1
	}
	return len(m.done)
}

func (m *model) left() int {
	left := max(m.task.Float, 0)
	for _, s := range m.done {
		for range min(s.armed, left) {
			left--
		}
	}
	return left
}

func (m *model) begin(cost int) api.Errno {
	o, ok := m.op()
	if !ok {
		return api.ErrArg
	}
	if cost < 1 {
		cost = 1
	}
	m.done = append(m.done, stretch{op: o, takes: cost})
	if m.fault() {
		m.done[len(m.done)-1].takes = 1
		return api.ErrStack
	}
	return api.OK
}

func (m *model) burn(cycles int) int {
	s := m.under()
	if s == nil || cycles < 0 {
		return 0
	}
	n := min(cycles, s.takes-s.gone)
	s.gone += n
	if m.armed {
		s.armed += n
	}
	return n
}

func (m *model) withhold() bool {
	if m.over() || m.left() == 0 {
		return false
	}
	m.armed = true
	return true
}

// made is a job of a task, and its model.
func made(t api.Task) (*Job, *model) {
	return New(t), &model{task: t}
}

// run is a task of a frame and a float, with a program.
func run(frame, float int, l ...api.Op) api.Task {
	return api.Task{Priority: 1, Threshold: 1, Period: 9, Deadline: 9, Frame: frame, Float: float, Program: l}
}

// compare asks a job all that leaves it as it is.
func compare(t *testing.T, j *Job, m *model) {
	t.Helper()
	got, ok := j.Op()
	if want, wantOk := m.op(); got != want || ok != wantOk {
		t.Fatalf("Op %v, %t, want %v, %t", got, ok, want, wantOk)
	}
	if j.Rest() != m.rest() || j.At() != m.at() {
		t.Fatalf("Rest %d, At %d, want %d, %d", j.Rest(), j.At(), m.rest(), m.at())
	}
	if j.Open() != m.open() || j.Over() != m.over() || j.Fault() != m.fault() {
		t.Fatalf("Open %t, Over %t, Fault %t, want %t, %t, %t", j.Open(), j.Over(), j.Fault(), m.open(), m.over(), m.fault())
	}
	if left, armed := j.Left(); left != m.left() || armed != m.armed {
		t.Fatalf("Left %d, %t, want %d, %t", left, armed, m.left(), m.armed)
	}
	if pushed, _ := m.pushed(); !pushed.IsInt64() || int64(j.Pushed()) != pushed.Int64() {
		t.Fatalf("Pushed %d, want %v", j.Pushed(), pushed)
	}
}

// begin, burn and withhold make a call, and hold its answer and the whole job against the model's.
func begin(t *testing.T, j *Job, m *model, cost int) {
	t.Helper()
	if got, want := j.Begin(cost), m.begin(cost); got != want {
		t.Fatalf("Begin(%d): %d, want %d", cost, got, want)
	}
	compare(t, j, m)
}

func burn(t *testing.T, j *Job, m *model, cycles int) {
	t.Helper()
	if got, want := j.Burn(cycles), m.burn(cycles); got != want {
		t.Fatalf("Burn(%d): %d, want %d", cycles, got, want)
	}
	compare(t, j, m)
}

func withhold(t *testing.T, j *Job, m *model) {
	t.Helper()
	if got, want := j.Withhold(), m.withhold(); got != want {
		t.Fatalf("Withhold: %t, want %t", got, want)
	}
	compare(t, j, m)
}

func TestExample(t *testing.T) {
	j := New(run(0, 0, api.Op{Kind: api.OpCompute, A: 5}))
	if o, ok := j.Op(); o != (api.Op{Kind: api.OpCompute, A: 5}) || !ok || j.Over() || j.Rest() != 0 {
		t.Error(o, ok, j.Over(), j.Rest())
	}
	if e := j.Begin(5); e != api.OK || j.Rest() != 5 || j.At() != 0 {
		t.Error(e, j.Rest(), j.At())
	}
	if o, ok := j.Op(); o != (api.Op{}) || ok {
		t.Error(o, ok)
	}
	if n := j.Burn(5); n != 5 || !j.Over() || j.Fault() || j.Rest() != 0 || j.At() != 1 {
		t.Error(n, j.Over(), j.Fault(), j.Rest(), j.At())
	}
	if o, ok := j.Op(); o != (api.Op{}) || ok {
		t.Error(o, ok)
	}
}

func TestNoOperations(t *testing.T) {
	for _, task := range []api.Task{{}, {Program: []api.Op{}}, run(5, 3), run(-1, -1)} {
		j, m := made(task)
		compare(t, j, m)
		if !j.Over() {
			t.Error("not over")
		}
		begin(t, j, m, 1)
		burn(t, j, m, 1)
		withhold(t, j, m)
	}
}

func TestCostsAndCycles(t *testing.T) {
	numbers := []int{math.MinInt, -1 << 32, -2, -1, 0, 1, 2, 3, 1 << 32, math.MaxInt - 1, math.MaxInt}
	for _, cost := range numbers {
		for _, cycles := range numbers {
			j, m := made(run(0, 0, api.Op{Kind: api.OpCompute, A: 5}, api.Op{Kind: api.OpGive}))
			burn(t, j, m, cycles) // none is under way
			begin(t, j, m, cost)
			begin(t, j, m, cost) // one is
			burn(t, j, m, cycles)
			burn(t, j, m, cycles)
			burn(t, j, m, math.MaxInt)
			if j.At() != 1 {
				t.Fatalf("cost %d: At %d", cost, j.At())
			}
			begin(t, j, m, cost)
			burn(t, j, m, math.MaxInt)
			begin(t, j, m, cost) // it is over
			burn(t, j, m, cycles)
		}
	}
}

// TestRegions: a region is open from its OpEnter's beginning on, up to that of its OpExit.
func TestRegions(t *testing.T) {
	enter, exit, work := api.Op{Kind: api.OpEnter}, api.Op{Kind: api.OpExit}, api.Op{Kind: api.OpCompute, A: 1}
	cases := []struct {
		program []api.Op
		open    []bool // behind each beginning
	}{
		{[]api.Op{work, enter, work, exit, work}, []bool{false, true, true, false, false}},
		{[]api.Op{enter, enter, exit, work, exit, work}, []bool{true, true, true, true, false, false}},
		{[]api.Op{exit, exit, enter, work, exit}, []bool{false, false, true, true, false}},
		{[]api.Op{enter, work}, []bool{true, true}},
	}
	for _, c := range cases {
		j, m := made(run(0, 0, c.program...))
		for i, open := range c.open {
			begin(t, j, m, 2)
			if j.Open() != open {
				t.Errorf("%v: Open at %d: %t", c.program, i, j.Open())
			}
			burn(t, j, m, 1)
			burn(t, j, m, 1)
		}
	}
}

func TestFrame(t *testing.T) {
	push := func(n int) api.Op { return api.Op{Kind: api.OpPush, A: n} }
	pop := func(n int) api.Op { return api.Op{Kind: api.OpPop, A: n} }
	cases := []struct {
		frame   int
		program []api.Op
		pushed  []int // behind each beginning
		fault   bool  // at the last one
	}{
		{5, []api.Op{push(5)}, []int{5}, false},
		{5, []api.Op{push(6), push(0)}, []int{6}, true},
		{5, []api.Op{push(3), push(3), pop(3)}, []int{3, 6}, true},
		{5, []api.Op{push(3), pop(3), push(5)}, []int{3, 0, 5}, false},
		{5, []api.Op{push(3), pop(2), push(5)}, []int{3, 1, 6}, true},
		{5, []api.Op{pop(9), push(5), pop(6), push(5), push(1)}, []int{0, 5, 0, 5, 6}, true},
		{0, []api.Op{push(0), pop(0), push(1)}, []int{0, 0, 1}, true},
		{-1, []api.Op{pop(1), push(0)}, []int{0, 0}, true},
		{5, []api.Op{push(3), push(-2), push(4)}, []int{3, 1, 5}, false},
		{5, []api.Op{push(3), pop(-2), push(1)}, []int{3, 5, 6}, true},
		{math.MaxInt, []api.Op{push(math.MaxInt), pop(1), push(1), pop(math.MaxInt)}, []int{math.MaxInt, math.MaxInt - 1, math.MaxInt, 0}, false},
		{math.MinInt, []api.Op{push(math.MinInt), push(0), pop(math.MinInt)}, []int{math.MinInt, math.MinInt, 0}, false},
		{4096, []api.Op{push(math.MinInt), pop(math.MaxInt), push(4096), push(1)}, []int{math.MinInt, 0, 4096, 4097}, true},
	}
	for _, c := range cases {
		j, m := made(run(c.frame, 0, c.program...))
		for i, pushed := range c.pushed {
			begin(t, j, m, 3)
			if j.Pushed() != pushed || j.Fault() != (c.fault && i == len(c.pushed)-1) {
				t.Errorf("frame %d, %v: at %d pushed %d, fault %t", c.frame, c.program, i, j.Pushed(), j.Fault())
			}
			burn(t, j, m, 3)
		}
		if !j.Over() || j.Fault() != c.fault {
			t.Errorf("frame %d, %v: over %t, fault %t", c.frame, c.program, j.Over(), j.Fault())
		}
	}
}

// TestFault: a fault's one cycle goes by, behind which the job is over, at the next place.
func TestFault(t *testing.T) {
	for _, cost := range []int{math.MinInt, 0, 1, 2, 9, math.MaxInt} {
		j, m := made(run(5, 4, api.Op{Kind: api.OpEnter}, api.Op{Kind: api.OpPush, A: 6}, api.Op{Kind: api.OpCompute, A: 2}))
		begin(t, j, m, cost)
		burn(t, j, m, math.MaxInt)
		if e := j.Begin(cost); e != api.ErrStack || m.begin(cost) != e {
			t.Fatal(e)
		}
		compare(t, j, m)
		if j.Rest() != 1 || j.Over() || !j.Fault() || j.At() != 1 {
			t.Error(j.Rest(), j.Over(), j.Fault(), j.At())
		}
		begin(t, j, m, cost)
		withhold(t, j, m)
		burn(t, j, m, 0)
		burn(t, j, m, 2)
		if j.Rest() != 0 || !j.Over() || !j.Fault() || j.At() != 2 || !j.Open() {
			t.Error(j.Rest(), j.Over(), j.Fault(), j.At(), j.Open())
		}
		begin(t, j, m, cost)
		burn(t, j, m, 1)
		withhold(t, j, m)
	}
}

// TestBeyondAllNumbers: what is pushed may be more, or less, than an int tells.
func TestBeyondAllNumbers(t *testing.T) {
	push := func(n int) api.Op { return api.Op{Kind: api.OpPush, A: n} }
	pop := func(n int) api.Op { return api.Op{Kind: api.OpPop, A: n} }
	cases := []struct {
		program []api.Op
		pushed  int
		last    api.Errno
	}{
		{[]api.Op{push(math.MaxInt), push(1)}, math.MaxInt, api.ErrStack},
		{[]api.Op{push(math.MaxInt), push(math.MaxInt)}, math.MaxInt, api.ErrStack},
		{[]api.Op{push(math.MinInt), push(-1)}, math.MinInt, api.OK},
		{[]api.Op{push(math.MinInt), push(math.MinInt)}, math.MinInt, api.OK},
		{[]api.Op{push(1), pop(math.MinInt)}, math.MaxInt, api.OK},
		{[]api.Op{push(0), pop(math.MinInt)}, math.MaxInt, api.OK},
		{[]api.Op{push(-1), pop(math.MinInt)}, math.MaxInt, api.OK},
	}
	for _, c := range cases {
		j := New(run(math.MaxInt, 0, c.program...))
		var e api.Errno
		for range c.program {
			e = j.Begin(1)
			j.Burn(1)
		}
		if e != c.last || j.Pushed() != c.pushed || j.Fault() != (e != api.OK) {
			t.Errorf("%v: %d, pushed %d, fault %t", c.program, e, j.Pushed(), j.Fault())
		}
	}
}

// TestWithhold: what may be withheld goes by only once somebody is withheld.
func TestWithhold(t *testing.T) {
	j, m := made(run(0, 5, api.Op{Kind: api.OpCompute, A: 4}, api.Op{Kind: api.OpCompute, A: 9}, api.Op{Kind: api.OpCompute, A: 9}))
	begin(t, j, m, 4)
	burn(t, j, m, 3)
	if left, armed := j.Left(); left != 5 || armed {
		t.Error(left, armed)
	}
	withhold(t, j, m)
	withhold(t, j, m)
	if left, armed := j.Left(); left != 5 || !armed {
		t.Error(left, armed)
	}
	burn(t, j, m, 9) // one is left
	if left, armed := j.Left(); left != 4 || !armed {
		t.Error(left, armed)
	}
	burn(t, j, m, 9) // none is under way
	withhold(t, j, m)
	begin(t, j, m, 9)
	burn(t, j, m, -3)
	burn(t, j, m, 3)
	withhold(t, j, m)
	burn(t, j, m, 1)
	if left, armed := j.Left(); left != 0 || !armed || j.Withhold() {
		t.Error(left, armed)
	}
	burn(t, j, m, 5)
	begin(t, j, m, 9)
	burn(t, j, m, 5)
	if left, armed := j.Left(); left != 0 || !armed || j.Withhold() {
		t.Error(left, armed)
	}
}

func TestWithholdMoreThanIsLeft(t *testing.T) {
	j, m := made(run(0, 2, api.Op{Kind: api.OpCompute, A: 9}))
	withhold(t, j, m) // ahead of its first operation
	begin(t, j, m, 9)
	burn(t, j, m, 5)
	if left, armed := j.Left(); left != 0 || !armed {
		t.Error(left, armed)
	}
}

func TestFloats(t *testing.T) {
	for _, float := range []int{math.MinInt, -1, 0, 1, 2} {
		j, m := made(run(0, float, api.Op{Kind: api.OpCompute, A: 2}))
		withhold(t, j, m)
		begin(t, j, m, 2)
		withhold(t, j, m)
		burn(t, j, m, 1)
		withhold(t, j, m)
		burn(t, j, m, 1)
		withhold(t, j, m) // it is over
	}
	j := New(run(0, math.MaxInt, api.Op{Kind: api.OpCompute, A: 2}))
	j.Begin(math.MaxInt)
	j.Withhold()
	j.Burn(math.MaxInt - 1)
	if left, armed := j.Left(); left != 1 || !armed || !j.Withhold() {
		t.Error(left, armed)
	}
}

// TestWithholdBehindTheEnd: who is over withholds nobody, and isn't armed by that.
func TestWithholdBehindTheEnd(t *testing.T) {
	j, m := made(run(0, 7, api.Op{Kind: api.OpCompute, A: 1}))
	begin(t, j, m, 1)
	burn(t, j, m, 1)
	withhold(t, j, m)
	if left, armed := j.Left(); left != 7 || armed {
		t.Error(left, armed)
	}
}

func TestKinds(t *testing.T) {
	for kind := -1; kind <= api.OpKinds+1; kind++ {
		j, m := made(run(5, 1, api.Op{Kind: api.OpEnter}, api.Op{Kind: api.OpPush, A: 2}, api.Op{Kind: kind, A: 3, B: 4}))
		for range 3 {
			begin(t, j, m, 2)
			burn(t, j, m, 2)
		}
	}
}

// goThrough lets a job go through its program, withholding at one place, with each operation's cycles in parts of a length; it tells all states between the operations.
func goThrough(t *testing.T, task api.Task, cost, withholdAt, part int) []Job {
	t.Helper()
	j, m := made(task)
	var states []Job
	for !j.Over() {
		if j.At() == withholdAt {
			withhold(t, j, m)
		}
		begin(t, j, m, cost)
		for j.Rest() > 0 {
			burn(t, j, m, part)
		}
		state := *j
		state.program = nil
		states = append(states, state)
	}
	return states
}

func TestCyclesInParts(t *testing.T) {
	task := run(5, 9, api.Op{Kind: api.OpEnter}, api.Op{Kind: api.OpPush, A: 5}, api.Op{Kind: api.OpExit}, api.Op{Kind: api.OpPop, A: 2}, api.Op{Kind: api.OpCompute, A: 7}, api.Op{Kind: api.OpPush, A: 3})
	same := func(a, b Job) bool {
		return a.at == b.at && a.rest == b.rest && a.regions == b.regions && a.pushed == b.pushed && a.left == b.left && a.armed == b.armed && a.fault == b.fault
	}
	for cost := 1; cost <= 8; cost++ {
		for at := -1; at < len(task.Program); at++ {
			whole := goThrough(t, task, cost, at, cost)
			for part := 1; part < cost; part++ {
				if parts := goThrough(t, task, cost, at, part); !slices.EqualFunc(parts, whole, same) {
					t.Fatalf("cost %d, withheld at %d, parts of %d: %v, want %v", cost, at, part, parts, whole)
				}
			}
		}
	}
}

func TestNothingIsShared(t *testing.T) {
	program := []api.Op{{Kind: api.OpPush, A: 1}, {Kind: api.OpCompute, A: 2}}
	task := run(5, 3, program...)
	j, m := New(task), &model{task: run(5, 3, slices.Clone(program)...)}
	program[0].A, program[1] = 9, api.Op{}
	task.Program[0], task.Frame = api.Op{}, 0
	compare(t, j, m)
	begin(t, j, m, 1)
	burn(t, j, m, 1)
	begin(t, j, m, 1)
	if !slices.Equal(program, []api.Op{{}, {}}) {
		t.Error(program)
	}
}

func TestJobsStandForThemselves(t *testing.T) {
	task := run(5, 3, api.Op{Kind: api.OpPush, A: 1}, api.Op{Kind: api.OpCompute, A: 2})
	j, m := made(task)
	other, n := made(task)
	begin(t, j, m, 1)
	withhold(t, j, m)
	burn(t, j, m, 1)
	compare(t, other, n)
	begin(t, other, n, 2)
	compare(t, j, m)
}

func TestCallsInAnyOrder(t *testing.T) {
	seed := uint32(17)
	draw := func(n int) int {
		seed = seed*1664525 + 1013904223
		return int(seed>>8) % n
	}
	for range 2000 {
		program := make([]api.Op, draw(12))
		for i := range program {
			program[i] = api.Op{Kind: draw(10), A: draw(6) - 1}
		}
		j, m := made(run(draw(12)-1, draw(12)-1, program...))
		compare(t, j, m)
		for range 40 {
			switch draw(6) {
			case 0, 1:
				begin(t, j, m, draw(7)-1)
			case 2:
				withhold(t, j, m)
			default:
				burn(t, j, m, draw(7)-1)
			}
		}
	}
}

func TestNilJob(t *testing.T) {
	var j *Job
	for _, n := range []int{math.MinInt, -1, 0, 1, math.MaxInt} {
		if e := j.Begin(n); e != api.ErrArg {
			t.Errorf("Begin(%d): %d", n, e)
		}
		if gone := j.Burn(n); gone != 0 {
			t.Errorf("Burn(%d): %d", n, gone)
		}
	}
	if j.Withhold() {
		t.Error("Withhold")
	}
	compare(t, j, &model{})
}

// TestJobThatNewDidntMake: it is over, as one without operations.
func TestJobThatNewDidntMake(t *testing.T) {
	j, m := &Job{}, &model{}
	compare(t, j, m)
	begin(t, j, m, 1)
	burn(t, j, m, 1)
	withhold(t, j, m)
}
