package kernel

import (
	"fmt"
	"math"
	"slices"
	"testing"

	"signalbox/api"
	"signalbox/frames"
)

// compare asks a kernel all that leaves it as it is.
func compare(t *testing.T, k *Kernel, m *model) {
	t.Helper()
	if k.Now() != m.now || k.Peak() != m.peak {
		t.Fatalf("Now %d, Peak %d, want %d, %d", k.Now(), k.Peak(), m.now, m.peak)
	}
	if got := k.Trace(); !slices.Equal(got, m.trace) {
		t.Fatalf("trace\n%v\nwant\n%v", words(got), words(m.trace))
	}
	if got, want := k.Reports(), m.reports(); !slices.Equal(got, want) {
		t.Fatalf("reports\n%+v\nwant\n%+v", got, want)
	}
	if got, want := k.Frames(), m.frames(); !slices.Equal(got, want) {
		t.Fatalf("frames %v, want %v", got, want)
	}
	compareTop(t, k, m)
	compareObjects(t, k, m)
	for i := -1; i <= len(m.workers); i++ {
		misses, cycles, e := k.Alone(i)
		if wantMisses, wantCycles, wantE := m.alone(i); misses != wantMisses || cycles != wantCycles || e != wantE {
			t.Fatalf("Alone(%d): %d, %d, %d, want %d, %d, %d", i, misses, cycles, e, wantMisses, wantCycles, wantE)
		}
	}
}

func compareTop(t *testing.T, k *Kernel, m *model) {
	t.Helper()
	task, level, ok := k.Top()
	wantTask, wantLevel, wantOk := 0, 0, m.top() != nil
	if wantOk {
		wantTask, wantLevel = m.top().Task, m.level(m.top())
	}
	if task != wantTask || level != wantLevel || ok != wantOk {
		t.Fatalf("Top: %d, %d, %t, want %d, %d, %t", task, level, ok, wantTask, wantLevel, wantOk)
	}
}

func compareObjects(t *testing.T, k *Kernel, m *model) {
	t.Helper()
	for i := -1; i <= api.MaxObjects; i++ {
		var box []int
		if i >= 0 && i < len(m.boxes) {
			box = m.boxes[i]
		}
		if got := k.Box(i); !slices.Equal(got, box) {
			t.Fatalf("Box(%d): %v, want %v", i, got, box)
		}
		if n, e := k.Group(i); !like(m.groups, i, n, e) {
			t.Fatalf("Group(%d): %d, %d of %v", i, n, e, m.groups)
		}
		if n, e := k.Count(i); !like(m.counts, i, n, e) {
			t.Fatalf("Count(%d): %d, %d of %v", i, n, e, m.counts)
		}
	}
	twin := k.Cache()
	for i, set := range m.sets {
		if got := twin.Set(i); !slices.Equal(got, set) {
			t.Fatalf("set %d is %v, want %v", i, got, set)
		}
	}
	if twin.Of(len(m.sets)) != 0 || twin.Of(len(m.sets)-1) != len(m.sets)-1 {
		t.Fatalf("the cache hasn't %d sets", len(m.sets))
	}
}

// like asks whether an answer is what a row has at a place.
func like(row []int, i, n int, e api.Errno) bool {
	if i < 0 || i >= len(row) {
		return n == 0 && e == api.ErrNone
	}
	return n == row[i] && e == api.OK
}

// words are records as words, one a line.
func words(l []api.Record) []string {
	names := []string{"?", "release", "lost", "start", "displace", "resume", "done", "fault", "call"}
	var s []string
	for _, r := range l {
		s = append(s, fmt.Sprintln(r.At, names[r.Kind], r.Task, r.Job, r.Op, int(r.Code), r.Value))
	}
	return s
}

// task is one of a priority, a threshold and a float, with a frame of 5.
func task(priority, threshold, float int, l ...api.Op) api.Task {
	return api.Task{Priority: priority, Threshold: threshold, Period: 100, Deadline: 100, Frame: 5, Float: float, Program: l}
}

func compute(n int) api.Op { return api.Op{Kind: api.OpCompute, A: n} }

// config is one with a small machine, some objects, and these tasks.
func config(l ...api.Task) api.Config {
	return api.Config{
		Machine:   api.Machine{Sets: 2, Ways: 1, Hit: 1, Miss: 4},
		Mailboxes: []int{2, 1}, Groups: 2, Counts: []int{1, 2}, Ceilings: []int{3, 9},
		Tasks: l,
		Lines: []int{len(l) - 1, 0},
	}
}

// made is a kernel of a configuration, to which events come.
func made(t *testing.T, c api.Config, l ...api.Event) *Kernel {
	t.Helper()
	k, e := New(c)
	if e != api.OK {
		t.Fatal(e)
	}
	for _, event := range l {
		if e := k.Event(event); e != api.OK {
			t.Fatal(event, e)
		}
	}
	return k
}

// release is a task's, at a tick.
func release(at, task int) api.Event {
	return api.Event{At: at, Kind: api.EventRelease, A: task}
}

// traced runs a kernel up to a tick, and holds its trace against these: At, kind, task, job, operation, code, value.
func traced(t *testing.T, k *Kernel, until int, want ...[7]int) {
	t.Helper()
	if e := k.Run(until); e != api.OK {
		t.Fatal(e)
	}
	var l []api.Record
	for _, w := range want {
		l = append(l, api.Record{At: w[0], Kind: w[1], Task: w[2], Job: w[3], Op: w[4], Code: api.Errno(w[5]), Value: w[6]})
	}
	if got := k.Trace(); !slices.Equal(got, l) {
		t.Errorf("trace\n%v\nwant\n%v", words(got), words(l))
	}
}

func TestOneCompute(t *testing.T) {
	k := made(t, config(task(1, 1, 0, compute(5))), release(3, 0))
	traced(t, k, 20, [7]int{3, api.RecRelease}, [7]int{3, api.RecStart}, [7]int{8, api.RecDone})
	want := api.Report{Release: 3, Start: 3, End: 8}
	if got := k.Reports(); len(got) != 1 || got[0] != want {
		t.Errorf("%+v", got)
	}
}

// TestWhatIsToldAtTheEnd: a job whose last cycle went by is done, though the tick of its end isn't.
func TestWhatIsToldAtTheEnd(t *testing.T) {
	k := made(t, config(task(1, 1, 0, compute(5))), release(3, 0), release(8, 0))
	traced(t, k, 7, [7]int{3, api.RecRelease}, [7]int{3, api.RecStart})
	if r := k.Reports(); r[0].End != -1 || len(k.Frames()) != 1 {
		t.Errorf("%+v", r)
	}
	traced(t, k, 8, [7]int{3, api.RecRelease}, [7]int{3, api.RecStart}, [7]int{8, api.RecDone})
	if r := k.Reports(); len(r) != 1 || r[0].End != 8 || len(k.Frames()) != 0 {
		t.Errorf("%+v", r)
	}
	if _, _, ok := k.Top(); ok {
		t.Error("a top")
	}
	traced(t, k, 9, [7]int{3, api.RecRelease}, [7]int{3, api.RecStart}, [7]int{8, api.RecDone}, [7]int{8, api.RecRelease, 0, 1}, [7]int{8, api.RecStart, 0, 1})
}

func TestHigherDisplaces(t *testing.T) {
	k := made(t, config(task(1, 1, 0, compute(5)), task(2, 2, 0, compute(3))), release(0, 0), release(2, 1))
	traced(t, k, 20,
		[7]int{0, api.RecRelease, 0}, [7]int{0, api.RecStart, 0},
		[7]int{2, api.RecRelease, 1}, [7]int{2, api.RecDisplace, 0}, [7]int{2, api.RecStart, 1, 0, 0, 0, 5},
		[7]int{5, api.RecDone, 1}, [7]int{5, api.RecResume, 0}, [7]int{8, api.RecDone, 0})
	want := []api.Report{
		{Task: 0, Release: 0, Start: 0, End: 8, Displaced: 1},
		{Task: 1, Release: 2, Start: 2, End: 5, Base: 5},
	}
	if got := k.Reports(); !slices.Equal(got, want) || k.Peak() != 10 {
		t.Errorf("%+v, peak %d", got, k.Peak())
	}
}

func TestThresholdKeepsAway(t *testing.T) {
	k := made(t, config(task(1, 2, 0, compute(5)), task(2, 2, 0, compute(3))), release(0, 0), release(2, 1))
	traced(t, k, 20,
		[7]int{0, api.RecRelease, 0}, [7]int{0, api.RecStart, 0}, [7]int{2, api.RecRelease, 1},
		[7]int{5, api.RecDone, 0}, [7]int{5, api.RecStart, 1}, [7]int{8, api.RecDone, 1})
	if k.Peak() != 5 {
		t.Error(k.Peak())
	}
}

func TestFloatWithholds(t *testing.T) {
	for float, start := range map[int]int{0: 2, 1: 3, 2: 4, 3: 5, 8: 10, 1 << 20: 10} {
		k := made(t, config(task(1, 1, float, compute(4), compute(6)), task(2, 2, 0, compute(3))), release(0, 0), release(2, 1))
		k.Run(50)
		r := k.Reports()
		displaced := 1
		if start == 10 { // the first one was done ahead of what it might have withheld
			displaced = 0
		}
		if r[1].Start != start || r[0].Withheld != start-2 || r[0].Displaced != displaced {
			t.Errorf("Float %d: %+v", float, r)
		}
	}
}

// TestArmedGoesDown: what may be withheld goes down with each cycle of a job that has withheld somebody, though nobody is withheld any more.
func TestArmedGoesDown(t *testing.T) {
	c := config(task(1, 1, 3, compute(1), api.Op{Kind: api.OpEnter}, compute(1), api.Op{Kind: api.OpExit}, compute(5)), task(2, 2, 0, compute(3)))
	k := made(t, c, release(0, 0), release(1, 1))
	k.Run(50)
	if r := k.Reports(); r[0].Withheld != 1 || r[1].Start != 4 {
		t.Errorf("%+v", r) // withheld at 1, in the region at 2 and 3
	}
}

func TestRegionKeepsAway(t *testing.T) {
	c := config(task(1, 1, 0, compute(2), api.Op{Kind: api.OpEnter}, compute(3), api.Op{Kind: api.OpExit}, compute(2)), task(63, 63, 0, compute(3)))
	for at, start := range []int{0, 1, 2, 7, 7, 7, 7, 7, 8, 9, 10} { // it is open from 2 on, up to the exit at 6; at 9 the job is done
		k := made(t, c, release(0, 0), release(at, 1))
		k.Run(50)
		if r := k.Reports(); r[1].Start != start {
			t.Errorf("released at %d: %+v", at, r)
		}
	}
	k := made(t, c, release(0, 0))
	for at, want := range []int{-1, 1, 1, 64, 64, 64, 64, 1, 1, -1} { // behind so many ticks
		k.Run(at)
		if _, level, ok := k.Top(); ok != (want >= 0) || ok && level != want {
			t.Errorf("at %d: level %d, %t", at, level, ok)
		}
	}
}

func TestCeilingKeepsAway(t *testing.T) {
	lock, unlock := func(i int) api.Op { return api.Op{Kind: api.OpLock, A: i} }, func(i int) api.Op { return api.Op{Kind: api.OpUnlock, A: i} }
	low := task(1, 2, 0, lock(0), compute(2), lock(1), compute(2), unlock(1), compute(1), unlock(0), compute(3))
	for priority, start := range map[int]int{2: 12, 3: 9, 4: 7, 9: 7, 10: 5} {
		k := made(t, config(low, task(priority, priority, 0, compute(1))), release(0, 0), release(5, 1))
		k.Run(50)
		if r := k.Reports(); r[1].Start != start {
			t.Errorf("priority %d: %+v", priority, r)
		}
	}
	k := made(t, config(low), release(0, 0))
	for at, want := range []int{-1, 3, 3, 3, 9, 9, 9, 3, 3, 2, 2, 2, -1} {
		k.Run(at)
		if _, level, ok := k.Top(); ok != (want >= 0) || ok && level != want {
			t.Errorf("at %d: level %d, %t", at, level, ok)
		}
	}
	calls := 0
	for _, r := range k.Trace() {
		if r.Kind == api.RecCall && r.Code == api.OK && r.Value == 0 && (r.Op == api.OpLock || r.Op == api.OpUnlock) {
			calls++
		}
	}
	if calls != 4 {
		t.Errorf("%v", words(k.Trace()))
	}
}

// TestFault: a frame that is overrun ends its job a tick later; its locks are free then, and its frame is gone.
func TestFault(t *testing.T) {
	c := config(
		task(1, 1, 0, api.Op{Kind: api.OpLock, A: 1}, api.Op{Kind: api.OpEnter}, api.Op{Kind: api.OpPush, A: 5}, api.Op{Kind: api.OpPush, A: 1}, compute(9), api.Op{Kind: api.OpExit}, api.Op{Kind: api.OpUnlock, A: 1}),
		task(2, 2, 0, api.Op{Kind: api.OpLock, A: 1}, compute(1), api.Op{Kind: api.OpUnlock, A: 1}))
	k := made(t, c, release(0, 0), release(1, 1))
	traced(t, k, 20,
		[7]int{0, api.RecRelease, 0}, [7]int{0, api.RecStart, 0}, [7]int{0, api.RecCall, 0, 0, api.OpLock},
		[7]int{1, api.RecRelease, 1},
		[7]int{4, api.RecFault, 0, 0, 0, int(api.ErrStack)},
		[7]int{4, api.RecStart, 1}, [7]int{4, api.RecCall, 1, 0, api.OpLock},
		[7]int{6, api.RecCall, 1, 0, api.OpUnlock}, [7]int{7, api.RecDone, 1})
	want := []api.Report{
		{Task: 0, Release: 0, Start: 0, End: 4, Fault: true},
		{Task: 1, Release: 1, Start: 4, End: 7},
	}
	if got := k.Reports(); !slices.Equal(got, want) || k.Peak() != 5 || len(k.Frames()) != 0 {
		t.Errorf("%+v", got)
	}
	one := made(t, config(task(1, 1, 0, api.Op{Kind: api.OpPush, A: 6})), release(2, 0))
	traced(t, one, 9, [7]int{2, api.RecRelease}, [7]int{2, api.RecStart}, [7]int{3, api.RecFault, 0, 0, 0, int(api.ErrStack)})
}

// TestManyOfOneTask: they begin one behind the other; a fifth one that would wait is lost, and its number with it.
func TestManyOfOneTask(t *testing.T) {
	k := made(t, config(task(1, 1, 0, compute(10))))
	for _, at := range []int{0, 1, 1, 2, 3, 4, 10, 11} {
		k.Event(release(at, 0))
	}
	traced(t, k, 21,
		[7]int{0, api.RecRelease, 0, 0}, [7]int{0, api.RecStart, 0, 0},
		[7]int{1, api.RecRelease, 0, 1}, [7]int{1, api.RecRelease, 0, 2}, [7]int{2, api.RecRelease, 0, 3}, [7]int{3, api.RecRelease, 0, 4},
		[7]int{4, api.RecLost, 0, 5, 0, int(api.ErrFull)},
		[7]int{10, api.RecDone, 0, 0}, [7]int{10, api.RecLost, 0, 6, 0, int(api.ErrFull)}, [7]int{10, api.RecStart, 0, 1},
		[7]int{11, api.RecRelease, 0, 7},
		[7]int{20, api.RecDone, 0, 1}, [7]int{20, api.RecStart, 0, 2})
	var jobs []int
	for _, r := range k.Reports() {
		jobs = append(jobs, r.Job)
	}
	if !slices.Equal(jobs, []int{0, 1, 2, 3, 4, 7}) {
		t.Error(jobs)
	}
}

func TestLines(t *testing.T) {
	event := func(at, kind, line int) api.Event { return api.Event{At: at, Kind: kind, A: line} }
	c := config(task(1, 1, 0, compute(1)), task(2, 2, 0, compute(1)))
	k := made(t, c,
		event(1, api.EventMask, 0), event(2, api.EventRaise, 0), event(2, api.EventRaise, 0), event(3, api.EventRaise, 1),
		event(6, api.EventUnmask, 0), event(8, api.EventRaise, 0), event(9, api.EventUnmask, 0), event(9, api.EventMask, 1), event(9, api.EventUnmask, 1))
	traced(t, k, 20,
		[7]int{3, api.RecRelease, 0, 0}, [7]int{3, api.RecStart, 0, 0}, [7]int{4, api.RecDone, 0, 0},
		[7]int{6, api.RecRelease, 1, 0}, [7]int{6, api.RecStart, 1, 0}, [7]int{7, api.RecDone, 1, 0},
		[7]int{8, api.RecRelease, 1, 1}, [7]int{8, api.RecStart, 1, 1}, [7]int{9, api.RecDone, 1, 1})
}

// TestTimer: it comes so often, each time behind what came for that tick ahead of it.
func TestTimer(t *testing.T) {
	timer := api.Event{At: 2, Kind: api.EventTimer, A: 1, B: 5, C: 3}
	c := config(task(1, 1, 0, compute(1)), task(2, 2, 0, compute(1)))
	k := made(t, c, timer, release(7, 0))
	traced(t, k, 30,
		[7]int{2, api.RecRelease, 1, 0}, [7]int{2, api.RecStart, 1, 0}, [7]int{3, api.RecDone, 1, 0},
		[7]int{7, api.RecRelease, 0, 0}, [7]int{7, api.RecRelease, 1, 1}, [7]int{7, api.RecStart, 1, 1},
		[7]int{8, api.RecDone, 1, 1}, [7]int{8, api.RecStart, 0, 0}, [7]int{9, api.RecDone, 0, 0},
		[7]int{12, api.RecRelease, 1, 2}, [7]int{12, api.RecStart, 1, 2}, [7]int{13, api.RecDone, 1, 2})
	late := made(t, c, timer)
	late.Run(3)
	late.Event(release(7, 0)) // the timer's next one came ahead of it
	late.Run(8)
	if r := late.Reports(); len(r) != 3 || r[1].Task != 1 || r[2].Task != 0 {
		t.Errorf("%+v", r)
	}
}

// TestAgainWithoutResuming: a job that was displaced, and is the top again, may be displaced anew ahead of its next cycle.
func TestAgainWithoutResuming(t *testing.T) {
	k := made(t, config(task(1, 1, 0, compute(5)), task(2, 3, 0, compute(2)), task(3, 3, 0, compute(2))), release(0, 0), release(1, 1), release(2, 2))
	traced(t, k, 20,
		[7]int{0, api.RecRelease, 0}, [7]int{0, api.RecStart, 0},
		[7]int{1, api.RecRelease, 1}, [7]int{1, api.RecDisplace, 0}, [7]int{1, api.RecStart, 1, 0, 0, 0, 5},
		[7]int{2, api.RecRelease, 2},
		[7]int{3, api.RecDone, 1}, [7]int{3, api.RecDisplace, 0}, [7]int{3, api.RecStart, 2, 0, 0, 0, 5},
		[7]int{5, api.RecDone, 2}, [7]int{5, api.RecResume, 0}, [7]int{9, api.RecDone, 0})
	if r := k.Reports(); r[0].Displaced != 2 || k.Peak() != 10 {
		t.Errorf("%+v", r)
	}
}

func TestCalls(t *testing.T) {
	op := func(kind, a, b int) api.Op { return api.Op{Kind: kind, A: a, B: b} }
	l := []api.Op{
		op(api.OpSend, 1, 7), op(api.OpSend, 1, 8), op(api.OpRecv, 1, 0), op(api.OpRecv, 1, 0), op(api.OpSend, 0, 255),
		op(api.OpSet, 1, 6), op(api.OpTest, 1, 3), op(api.OpTest, 1, 2), op(api.OpTest, 0, 0), op(api.OpClear, 1, 3), op(api.OpSet, 1, 0),
		op(api.OpGive, 0, 0), op(api.OpGive, 0, 0), op(api.OpTake, 0, 0), op(api.OpTake, 0, 0), op(api.OpGive, 1, 0), op(api.OpGive, 1, 0), op(api.OpTake, 1, 0),
		op(api.OpLock, 1, 0), op(api.OpUnlock, 1, 0), op(api.OpPush, 5, 0), op(api.OpPop, 5, 0), op(api.OpEnter, 0, 0), op(api.OpExit, 0, 0),
	}
	codes := [][2]int{ // code, value
		{0, 0}, {int(api.ErrFull), 0}, {0, 7}, {int(api.ErrEmpty), 0}, {0, 0},
		{0, 0}, {0, 0}, {0, 1}, {0, 1}, {0, 6}, {0, 4},
		{0, 1}, {int(api.ErrFull), 1}, {0, 0}, {int(api.ErrEmpty), 0}, {0, 1}, {0, 2}, {0, 1},
		{0, 0}, {0, 0},
	}
	want := [][7]int{{0, api.RecRelease}, {0, api.RecStart}}
	for i, c := range codes {
		want = append(want, [7]int{i, api.RecCall, 0, 0, l[i].Kind, c[0], c[1]})
	}
	k := made(t, config(task(1, 1, 0, l...)), release(0, 0))
	traced(t, k, 50, append(want, [7]int{len(l), api.RecDone})...)
	group, _ := k.Group(1)
	count, _ := k.Count(1)
	if !slices.Equal(k.Box(0), []int{255}) || len(k.Box(1)) != 0 || group != 4 || count != 1 {
		t.Error(k.Box(0), k.Box(1), group, count)
	}
}

// TestAccesses: a job that is displaced misses what the other one drove out; alone it would have found it.
func TestAccesses(t *testing.T) {
	access := func(block int) api.Op { return api.Op{Kind: api.OpAccess, A: block} }
	c := config(task(1, 1, 0, access(0), access(1), access(0), access(1)), task(2, 2, 0, access(2)))
	k := made(t, c, release(0, 0), release(5, 1), release(40, 0))
	if _, _, e := k.Alone(0); e != api.ErrNone {
		t.Error(e)
	}
	traced(t, k, 60,
		[7]int{0, api.RecRelease}, [7]int{0, api.RecStart},
		[7]int{5, api.RecRelease, 1}, [7]int{5, api.RecDisplace}, [7]int{5, api.RecStart, 1, 0, 0, 0, 5},
		[7]int{9, api.RecDone, 1}, [7]int{9, api.RecResume}, [7]int{17, api.RecDone},
		[7]int{40, api.RecRelease, 0, 1}, [7]int{40, api.RecStart, 0, 1}, [7]int{44, api.RecDone, 0, 1})
	r := k.Reports()
	if r[0].Hits != 1 || r[0].Misses != 3 || r[1].Hits != 0 || r[1].Misses != 1 || r[2].Hits != 4 || r[2].Misses != 0 {
		t.Errorf("%+v", r)
	}
	for i, want := range [][2]int{{2, 10}, {1, 4}, {0, 4}} {
		if misses, cycles, e := k.Alone(i); misses != want[0] || cycles != want[1] || e != api.OK {
			t.Errorf("Alone(%d): %d, %d, %d", i, misses, cycles, e)
		}
	}
}

func TestAloneOfOneThatWaits(t *testing.T) {
	k := made(t, config(task(1, 1, 0, compute(5))), release(0, 0), release(1, 0))
	for at, want := range []api.Errno{api.ErrNone, api.ErrNone, api.ErrEmpty, api.ErrEmpty, api.ErrEmpty, api.ErrEmpty, api.OK} {
		k.Run(at)
		if _, cycles, e := k.Alone(1); e != want || e == api.OK && cycles != 5 || e != api.OK && cycles != 0 {
			t.Errorf("at %d: %d, %d", at, cycles, e)
		}
	}
	for _, i := range []int{math.MinInt, -1, 2, math.MaxInt} {
		if misses, cycles, e := k.Alone(i); misses != 0 || cycles != 0 || e != api.ErrNone {
			t.Error(i, e)
		}
	}
}

func TestNewRefuses(t *testing.T) {
	good := func() api.Config { return config(task(1, 1, 0, compute(5)), task(2, 2, 0, compute(5))) }
	cases := []struct {
		spoil func(c *api.Config)
		want  api.Errno
	}{
		{func(c *api.Config) { *c = api.Config{} }, api.ErrRange},
		{func(c *api.Config) { c.Machine.Miss = 101 }, api.ErrRange},
		{func(c *api.Config) { c.Counts = make([]int, 5) }, api.ErrMany},
		{func(c *api.Config) { c.Tasks = nil }, api.ErrArg},
		{func(c *api.Config) { c.Groups = -1 }, api.ErrArg},
		{func(c *api.Config) { c.Lines[1] = 2 }, api.ErrRange},
		{func(c *api.Config) { c.Tasks[1].Float = -1 }, api.ErrRange},
		{func(c *api.Config) { c.Tasks[1].Program = nil }, api.ErrArg},
		{func(c *api.Config) { c.Tasks[1].Program = []api.Op{{Kind: api.OpEnter}} }, api.ErrNest},
		{func(c *api.Config) { c.Tasks[1].Priority = 1 }, api.ErrTwice},
	}
	for i, one := range cases {
		c := good()
		one.spoil(&c)
		if k, e := New(c); k != nil || e != one.want {
			t.Errorf("%d: %d, want %d", i, e, one.want)
		}
	}
	if k, e := New(good()); k == nil || e != api.OK || k.Now() != 0 {
		t.Error(e)
	}
}

func TestEventRefuses(t *testing.T) {
	k := made(t, config(task(1, 1, 0, compute(5)), task(2, 2, 0, compute(5)), task(3, 3, 0, compute(5))))
	k.Run(10)
	cases := []struct {
		e    api.Event
		want api.Errno
	}{
		{api.Event{At: 10}, api.ErrArg},
		{api.Event{At: 10, Kind: -1}, api.ErrArg},
		{api.Event{At: 10, Kind: 6}, api.ErrArg},
		{api.Event{At: -1, Kind: 6, A: -1}, api.ErrArg}, // the first of several
		{api.Event{At: 9, Kind: api.EventRelease}, api.ErrRange},
		{api.Event{At: math.MinInt, Kind: api.EventRaise}, api.ErrRange},
		{api.Event{At: 1<<24 + 1, Kind: api.EventMask}, api.ErrRange},
		{api.Event{At: 9, Kind: api.EventRelease, A: 3}, api.ErrRange},
		{api.Event{At: 10, Kind: api.EventTimer, B: 0, C: 1}, api.ErrRange},
		{api.Event{At: 10, Kind: api.EventTimer, B: 1<<20 + 1, C: 1}, api.ErrRange},
		{api.Event{At: 10, Kind: api.EventTimer, B: 1, C: 0}, api.ErrRange},
		{api.Event{At: 10, Kind: api.EventTimer, B: 1, C: 257}, api.ErrRange},
		{api.Event{At: 10, Kind: api.EventTimer, A: 9, B: -1, C: -1}, api.ErrRange},
		{api.Event{At: 10, Kind: api.EventTimer, A: 3, B: 1, C: 1}, api.ErrNone},
		{api.Event{At: 10, Kind: api.EventRelease, A: 3}, api.ErrNone},
		{api.Event{At: 10, Kind: api.EventRelease, A: -1}, api.ErrNone},
		{api.Event{At: 10, Kind: api.EventRaise, A: 2}, api.ErrNone}, // there is such a task, but no such line
		{api.Event{At: 10, Kind: api.EventMask, A: 2}, api.ErrNone},
		{api.Event{At: 10, Kind: api.EventUnmask, A: math.MaxInt}, api.ErrNone},
	}
	for _, c := range cases {
		if e := k.Event(c.e); e != c.want {
			t.Errorf("%+v: %d, want %d", c.e, e, c.want)
		}
	}
	k.Run(60)
	if l := k.Trace(); len(l) != 0 {
		t.Errorf("%v", words(l)) // nothing of what was refused came
	}
	for _, e := range []api.Event{
		{At: 60, Kind: api.EventRelease, A: 2}, {At: 1 << 24, Kind: api.EventRelease},
		{At: 60, Kind: api.EventMask, A: 1, B: -5, C: 999}, // what is of timers alone
		{At: 61, Kind: api.EventTimer, A: 2, B: 1 << 20, C: 256}, {At: 62, Kind: api.EventTimer, B: 1, C: 1},
	} {
		if got := k.Event(e); got != api.OK {
			t.Errorf("%+v: %d", e, got)
		}
	}
}

func TestTooManyEvents(t *testing.T) {
	k := made(t, config(task(1, 1, 0, compute(1))))
	for i := range api.MaxEvents {
		if e := k.Event(api.Event{At: 10 + i, Kind: api.EventTimer, B: 500, C: 2}); e != api.OK {
			t.Fatal(i, e)
		}
	}
	full := func(want api.Errno) {
		t.Helper()
		if e := k.Event(release(600, 0)); e != want {
			t.Errorf("at %d: %d, want %d", k.Now(), e, want)
		}
	}
	full(api.ErrFull)
	if e := k.Event(release(600, 1)); e != api.ErrNone {
		t.Error(e)
	}
	k.Run(510)
	full(api.ErrFull) // each timer comes once more
	k.Run(511)
	full(api.OK)
	full(api.ErrFull)
	k.Run(513)
	full(api.OK)
	full(api.OK)
	full(api.ErrFull)
	k.Run(api.MaxTime)
	if n := len(k.Reports()); n < api.MaxEvents {
		t.Error(n)
	}
}

func TestRunRefuses(t *testing.T) {
	k := made(t, config(task(1, 1, 0, compute(5))), release(3, 0))
	for _, until := range []int{0, 5} {
		for range 2 {
			if e := k.Run(until); e != api.OK || k.Now() != until {
				t.Error(until, e)
			}
		}
	}
	for _, until := range []int{math.MinInt, -1, 0, 4, 1<<24 + 1, math.MaxInt} {
		if e := k.Run(until); e != api.ErrRange || k.Now() != 5 || k.Reports()[0].End != -1 {
			t.Error(until, e)
		}
	}
	if e := k.Run(1 << 24); e != api.OK || k.Now() != 1<<24 || k.Reports()[0].End != 8 {
		t.Error(e)
	}
	if e := k.Event(release(1<<24, 0)); e != api.OK || k.Run(1<<24) != api.OK || len(k.Reports()) != 1 {
		t.Error(e) // the last tick isn't done
	}
}

func TestNilKernel(t *testing.T) {
	var k *Kernel
	if e := k.Event(release(0, 0)); e != api.ErrArg {
		t.Error(e)
	}
	for _, until := range []int{-1, 0, 5, math.MaxInt} {
		if e := k.Run(until); e != api.ErrArg {
			t.Error(e)
		}
	}
	if k.Now() != 0 || k.Peak() != 0 || len(k.Trace()) != 0 || len(k.Reports()) != 0 || len(k.Frames()) != 0 || k.Cache() != nil {
		t.Error("something")
	}
	for _, i := range []int{-1, 0, 1} {
		group, groupE := k.Group(i)
		count, countE := k.Count(i)
		misses, cycles, e := k.Alone(i)
		if len(k.Box(i)) != 0 || group != 0 || groupE != api.ErrArg || count != 0 || countE != api.ErrArg || misses != 0 || cycles != 0 || e != api.ErrArg {
			t.Error(group, groupE, count, countE, misses, cycles, e)
		}
	}
	if task, level, ok := k.Top(); task != 0 || level != 0 || ok {
		t.Error(task, level)
	}
}

// TestKernelThatNewDidNotMake: it has no tasks, and no objects.
func TestKernelThatNewDidNotMake(t *testing.T) {
	k := &Kernel{}
	if e := k.Event(release(0, 0)); e != api.ErrNone {
		t.Error(e)
	}
	if e := k.Run(9); e != api.OK || k.Now() != 9 || len(k.Trace()) != 0 || len(k.Reports()) != 0 || len(k.Frames()) != 0 || k.Peak() != 0 || k.Cache() != nil || len(k.Box(0)) != 0 {
		t.Error(e)
	}
	if _, e := k.Group(0); e != api.ErrNone {
		t.Error(e)
	}
	if _, e := k.Count(0); e != api.ErrNone {
		t.Error(e)
	}
	if _, _, e := k.Alone(0); e != api.ErrNone {
		t.Error(e)
	}
	if _, _, ok := k.Top(); ok {
		t.Error("a top")
	}
}

func TestNothingIsShared(t *testing.T) {
	d := &drawer{seed: 5}
	for range 50 {
		c := d.config()
		twin := c
		twin.Mailboxes, twin.Counts, twin.Ceilings, twin.Lines = slices.Clone(c.Mailboxes), slices.Clone(c.Counts), slices.Clone(c.Ceilings), slices.Clone(c.Lines)
		twin.Tasks = slices.Clone(c.Tasks)
		for i := range twin.Tasks {
			twin.Tasks[i].Program = slices.Clone(twin.Tasks[i].Program)
		}
		k, m := made(t, c), newModel(twin)
		for _, l := range [][]int{c.Mailboxes, c.Counts, c.Ceilings, c.Lines} {
			spoil(l, -9)
		}
		for i := range c.Tasks {
			spoil(c.Tasks[i].Program, api.Op{})
		}
		spoil(c.Tasks, api.Task{})
		feed(t, d, k, m, 30)
		for range 10 {
			until := k.Now() + d.upTo(20)
			k.Run(until)
			m.run(until)
			spoil(k.Trace(), api.Record{})
			spoil(k.Reports(), api.Report{})
			spoil(k.Frames(), frames.Frame{Who: 99, Base: 99, Size: 99})
			for i := range api.MaxObjects {
				spoil(k.Box(i), -9)
			}
			k.Cache().Clear()
			compare(t, k, m)
		}
	}
}

// spoil overwrites a row with something else.
func spoil[T any](l []T, with T) {
	for i := range l {
		l[i] = with
	}
}

// feed lets some events come to a kernel and to its model.
func feed(t *testing.T, d *drawer, k *Kernel, m *model, count int) {
	t.Helper()
	for range count {
		e := d.event(m.c, m.now)
		if got, want := k.Event(e), m.event(e); got != want {
			t.Fatalf("%+v: %d, want %d", e, got, want)
		}
	}
}

// TestAnyRun: kernels of all kinds of configurations do, tick by tick, what the model does.
func TestAnyRun(t *testing.T) {
	var seen [9]int
	for seed := range 1500 {
		d := &drawer{seed: uint64(seed)}
		c := d.config()
		k, m := made(t, c), newModel(c)
		compare(t, k, m)
		for range 8 {
			feed(t, d, k, m, d.upTo(12))
			until := m.now + d.upTo(60)
			if d.upTo(9) == 0 {
				until = d.pick(m.now-1, m.now, 1<<24+1)
			}
			if got, want := k.Run(until), m.run(until); got != want {
				t.Fatalf("Run(%d): %d, want %d", until, got, want)
			}
			compare(t, k, m)
		}
		for _, r := range m.trace {
			seen[r.Kind]++
		}
	}
	for kind := 1; kind < len(seen); kind++ {
		if seen[kind] < 100 {
			t.Errorf("hardly any record of kind %d: %v", kind, seen)
		}
	}
}

// TestInParts: a run in parts, of a tick or more, comes to what it comes to at once.
func TestInParts(t *testing.T) {
	for seed := range 400 {
		d := &drawer{seed: uint64(seed) << 20}
		c := d.config()
		var l []api.Event
		for range 40 {
			l = append(l, d.event(c, d.upTo(200)))
		}
		at := func(part func() int) *Kernel {
			k := made(t, c)
			for _, e := range l {
				k.Event(e)
			}
			for k.Now() < 400 {
				k.Run(min(k.Now()+part(), 400))
			}
			return k
		}
		whole := at(func() int { return 400 })
		for i, k := range []*Kernel{at(func() int { return 1 }), at(func() int { return d.upTo(7) }), at(func() int { return 50 })} {
			same(t, i, whole, k)
		}
	}
}

// same holds two kernels of one configuration against each other.
func same(t *testing.T, i int, a, b *Kernel) {
	t.Helper()
	if !slices.Equal(a.Trace(), b.Trace()) {
		t.Fatalf("%d: trace\n%v\nand\n%v", i, words(a.Trace()), words(b.Trace()))
	}
	if !slices.Equal(a.Reports(), b.Reports()) || !slices.Equal(a.Frames(), b.Frames()) || a.Peak() != b.Peak() || a.Now() != b.Now() {
		t.Fatalf("%d: %+v\nand\n%+v", i, a.Reports(), b.Reports())
	}
	for n := range api.MaxSets {
		if !slices.Equal(a.Cache().Set(n), b.Cache().Set(n)) {
			t.Fatalf("%d: set %d", i, n)
		}
	}
	for n := range api.MaxObjects {
		groupA, _ := a.Group(n)
		groupB, _ := b.Group(n)
		countA, _ := a.Count(n)
		countB, _ := b.Count(n)
		if groupA != groupB || countA != countB || !slices.Equal(a.Box(n), b.Box(n)) {
			t.Fatalf("%d: objects %d", i, n)
		}
	}
	for n := range a.Reports() {
		missesA, cyclesA, eA := a.Alone(n)
		missesB, cyclesB, eB := b.Alone(n)
		if missesA != missesB || cyclesA != cyclesB || eA != eB {
			t.Fatalf("%d: Alone(%d)", i, n)
		}
	}
	taskA, levelA, okA := a.Top()
	taskB, levelB, okB := b.Top()
	if taskA != taskB || levelA != levelB || okA != okB {
		t.Fatalf("%d: Top", i)
	}
}

// TestWhoDisplaces: it has a priority above the top's level, which is that of an open region, too; and the top has withheld as long as it may, if it may at all.
func TestWhoDisplaces(t *testing.T) {
	displaced, withheld := 0, 0
	for seed := range 600 {
		d := &drawer{seed: uint64(seed) << 40}
		c := d.config()
		k := made(t, c)
		for range 60 {
			k.Event(d.event(c, d.upTo(150)))
		}
		armed := map[int]int{} // of reports, the cycles since they withheld somebody for the first time
		for k.Now() < 300 {
			task, level, ok := k.Top()
			var top int
			if ok {
				top = k.Frames()[len(k.Frames())-1].Who
			}
			before := len(k.Trace())
			k.Run(k.Now() + 1)
			l := k.Trace()[before:]
			if i := slices.IndexFunc(l, func(r api.Record) bool { return r.Kind == api.RecDisplace }); i >= 0 {
				displaced++
				r := k.Reports()[top]
				if !ok || l[i].Task != task || l[i].Job != r.Job || l[i+1].Kind != api.RecStart || c.Tasks[l[i+1].Task].Priority <= level {
					t.Fatalf("seed %d: top %d of level %d\n%v", seed, task, level, words(l))
				}
				if left := c.Tasks[task].Float - armed[top]; left > 0 {
					t.Fatalf("seed %d: %d left to withhold\n%v", seed, left, words(l))
				}
			}
			for i, r := range k.Reports() {
				if r.Withheld > c.Tasks[r.Task].Float {
					t.Fatalf("seed %d: %+v", seed, r)
				}
				running := r.End < 0 && len(k.Frames()) > 0 && k.Frames()[len(k.Frames())-1].Who == i
				if r.Withheld > 0 && running {
					armed[i]++
					withheld++
				}
			}
		}
	}
	if displaced < 500 || withheld < 500 {
		t.Error(displaced, withheld)
	}
}

// TestFromChangeToChange: ticks in which nothing changes take no time of their own.
func TestFromChangeToChange(t *testing.T) {
	for range 200 {
		k := made(t, config(task(1, 1, 0, compute(5))), release(1<<23, 0))
		if k.Run(1<<24) != api.OK || k.Reports()[0].End != 1<<23+5 {
			t.Fatalf("%+v", k.Reports())
		}
	}
}

// TestDeepest: as many frames stand on each other as there are tasks.
func TestDeepest(t *testing.T) {
	var l []api.Task
	for i := range api.MaxTasks {
		one := task(56+i, 56+i, 0, compute(1000))
		one.Frame = api.MaxFrame
		l = append(l, one)
	}
	k := made(t, config(l...))
	for i := range l {
		k.Event(release(i, i))
	}
	k.Run(100)
	if k.Peak() != 8*4096 || len(k.Frames()) != 8 || k.Frames()[7].Who != 7 || k.Frames()[7].Base != 7*4096 {
		t.Error(k.Peak(), k.Frames())
	}
	k.Run(9000)
	if k.Peak() != 8*4096 || len(k.Frames()) != 0 || k.Reports()[0].End != 8000 {
		t.Error(k.Peak(), k.Frames())
	}
}

func TestCacheIsATwin(t *testing.T) {
	k := made(t, config(task(1, 1, 0, api.Op{Kind: api.OpAccess, A: 6}, compute(9))), release(0, 0))
	if first := k.Cache(); first == nil || len(first.Set(0)) != 0 || len(first.Set(1)) != 0 {
		t.Error("not empty at first")
	}
	k.Run(1)
	twin := k.Cache()
	if !twin.Has(6) || twin.Of(3) != 1 {
		t.Error(twin.Set(0))
	}
	twin.Access(8)
	if got := k.Cache().Set(0); !slices.Equal(got, []int{6}) {
		t.Error(got)
	}
}
