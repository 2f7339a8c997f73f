package monitor

import (
	"math"
	"slices"
	"testing"

	"signalbox/api"
	"signalbox/kernel"
)

const top = 1 << 40 // the greatest number that counts as it is

// config has tasks of these periods, whose deadlines are 100 less each.
func config(periods ...int) api.Config {
	var c api.Config
	for _, p := range periods {
		c.Tasks = append(c.Tasks, api.Task{Period: p, Deadline: p - 100})
	}
	return c
}

// released are a task's releases, at these ticks.
func released(task int, ats ...int) []api.Record {
	var l []api.Record
	for i, at := range ats {
		l = append(l, api.Record{At: at, Kind: api.RecRelease, Task: task, Job: i})
	}
	return l
}

// wants asks All and First, twice, and whether they leave alone what they are asked of.
func wants(t *testing.T, c api.Config, l []api.Record, want ...Flag) {
	t.Helper()
	records, tasks := slices.Clone(l), slices.Clone(c.Tasks)
	for range 2 {
		got := All(c, l)
		if !slices.Equal(got, want) {
			t.Errorf("All of %v with %v: %v, want %v", l, c.Tasks, got, want)
		}
		for i := range got { // an answer is the asker's own
			got[i] = Flag{-9, -9}
		}
		var first Flag
		if len(want) > 0 {
			first = want[0]
		}
		if f, ok := First(c, l); f != first || ok != (len(want) > 0) {
			t.Errorf("First of %v with %v: %v, %t, want %v", l, c.Tasks, f, ok, want)
		}
	}
	if !slices.Equal(l, records) || !slices.EqualFunc(c.Tasks, tasks, func(a, b api.Task) bool { return a.Period == b.Period }) {
		t.Error("what was handed in is changed")
	}
}

func TestExample(t *testing.T) {
	wants(t, config(10), released(0, 0, 9), Flag{9, 0})
}

func TestEdgesOfAPeriod(t *testing.T) {
	for _, period := range []int{1, 2, 10, 1 << 20, top - 1, top} {
		for _, from := range []int{0, 1, 7, -1, -5} {
			wants(t, config(period), released(0, from, from+period-1), Flag{from + period - 1, 0})
			wants(t, config(period), released(0, from, from), Flag{from, 0})
			if from <= 0 {
				wants(t, config(period), released(0, from, from+period))
			}
		}
	}
	wants(t, config(10), released(0, 3, 14, 25, 36))
	wants(t, config(10), released(0, 3, 13, 23, 32), Flag{32, 0})
}

func TestPeriodsBelowOne(t *testing.T) {
	wants(t, config(0), released(0, 4, 4, 5, 4), Flag{4, 0})
	wants(t, config(-1), released(0, 4, 3, 2, 0), Flag{0, 0})
	wants(t, config(-top), released(0, top, 0, -top, -top))
	wants(t, config(-top), released(0, top, 1, -top), Flag{-top, 0})
	wants(t, config(-top), released(0, top, -1), Flag{-1, 0})
}

// TestTheLastOneCounts: a release is held against the last one ahead of it in the trace, whether that came too soon, was lost, or came at a later tick.
func TestTheLastOneCounts(t *testing.T) {
	wants(t, config(10), released(0, 0, 9, 18, 28), Flag{9, 0}, Flag{18, 0})
	wants(t, config(10), released(0, 20, 5, 14, 24, 25), Flag{5, 0}, Flag{14, 0}, Flag{25, 0})
	wants(t, config(10), released(0, 0, 50, 10, 20), Flag{10, 0})
}

func TestOneReleaseIsNeverTooSoon(t *testing.T) {
	wants(t, config(10), nil)
	wants(t, config(10), []api.Record{})
	for _, at := range []int{0, 1, 9, -1, math.MinInt, math.MaxInt} {
		wants(t, config(10, top), append(released(0, at), released(1, at)...))
	}
}

// TestKinds: what is lost was released, too; all else is none.
func TestKinds(t *testing.T) {
	for _, kind := range []int{math.MinInt, -1, 0, 1, 2, 3, 4, 5, 6, 7, 8, 9, 257, 1<<32 + 1, math.MaxInt} {
		l := released(0, 0, 5, 10)
		l[1].Kind = kind
		gaps := []int{10}
		if kind == 1 || kind == 2 {
			wants(t, config(10), l, Flag{5, 0}, Flag{10, 0})
			gaps = []int{5, 5}
		} else {
			wants(t, config(10), l)
		}
		if got := Gaps(l, 0); !slices.Equal(got, gaps) {
			t.Errorf("Gaps with kind %d: %v, want %v", kind, got, gaps)
		}
	}
	for _, kinds := range [][2]int{{1, 2}, {2, 1}, {2, 2}} {
		wants(t, config(10), []api.Record{{At: 3, Kind: kinds[0], Code: api.ErrFull}, {At: 12, Kind: kinds[1]}}, Flag{12, 0})
	}
}

func TestTasksByThemselves(t *testing.T) {
	c := config(10, 3, 100)
	l := []api.Record{
		{At: 0, Kind: 1, Task: 2}, {At: 0, Kind: 1, Task: 0}, {At: 0, Kind: 1, Task: 1},
		{At: 2, Kind: 2, Task: 1}, {At: 5, Kind: 1, Task: 1}, {At: 9, Kind: 1, Task: 0}, {At: 9, Kind: 1, Task: 1},
		{At: 19, Kind: 1, Task: 0}, {At: 99, Kind: 1, Task: 2}, {At: 99, Kind: 1, Task: 1}, {At: 101, Kind: 1, Task: 1},
	}
	wants(t, c, l, Flag{2, 1}, Flag{9, 0}, Flag{99, 2}, Flag{101, 1})
	for task, want := range map[int][]int{0: {9, 10}, 1: {2, 3, 4, 90, 2}, 2: {99}} {
		if got := Gaps(l, task); !slices.Equal(got, want) {
			t.Errorf("Gaps of %d: %v, want %v", task, got, want)
		}
	}
}

// strangers are numbers of no task, where there are three.
func strangers() []int {
	return []int{math.MinInt, -top - 1, -top, -3, -1, 3, 4, 8, 256, 1 << 32, top, top + 1, math.MaxInt}
}

func TestTasksThatThereArent(t *testing.T) {
	for _, task := range strangers() {
		wants(t, config(10, 10, 10), released(task, 0, 1, 2))
		mixed := append(released(0, 0), released(task, 1, 1)...)
		mixed = append(mixed, released(0, 2)...)
		wants(t, config(10, 10, 10), mixed, Flag{2, 0})
		l := []api.Report{{Task: task, Release: 0, End: 999}, {Task: 0, Release: 0, End: 999}, {Task: task, End: -1}}
		if got := Late(config(10, 10, 10), l, 999); !slices.Equal(got, []int{1}) {
			t.Errorf("Late with task %d: %v", task, got)
		}
	}
	wants(t, api.Config{}, released(0, 0, 0))
	if got := Late(api.Config{}, []api.Report{{End: 9}}, 99); len(got) > 0 {
		t.Error(got)
	}
}

// TestGreatNumbers: what is beyond the ends counts as these, but is told as it is.
func TestGreatNumbers(t *testing.T) {
	wants(t, config(10), released(0, top, top+100, math.MaxInt), Flag{top + 100, 0}, Flag{math.MaxInt, 0})
	wants(t, config(10), released(0, math.MinInt, -top-50, -top+9, -top+19), Flag{-top - 50, 0}, Flag{-top + 9, 0})
	wants(t, config(10), released(0, math.MinInt, -top+10))
	wants(t, config(10), released(0, top-10, math.MaxInt))
	wants(t, config(10), released(0, top-9, math.MaxInt), Flag{math.MaxInt, 0})
	wants(t, config(10), released(0, math.MinInt, math.MaxInt))
	wants(t, config(10), released(0, math.MaxInt, math.MinInt), Flag{math.MinInt, 0})
	for _, period := range []int{top, top + 1, math.MaxInt} {
		wants(t, config(period), released(0, 0, top))
		wants(t, config(period), released(0, 1, top+1), Flag{top + 1, 0})
		wants(t, config(period), released(0, 0, top-1), Flag{top - 1, 0})
		wants(t, config(period), released(0, math.MinInt, math.MaxInt))
	}
	for _, period := range []int{-top, -top - 1, math.MinInt} {
		wants(t, config(period), released(0, top, 0))
		wants(t, config(period), released(0, math.MaxInt, -1), Flag{-1, 0})
	}
}

func TestGaps(t *testing.T) {
	for _, x := range []struct{ ats, want []int }{
		{nil, nil},
		{[]int{5}, nil},
		{[]int{0, 9}, []int{9}},
		{[]int{3, 3, 4, 14}, []int{0, 1, 10}},
		{[]int{20, 5, 14}, []int{-15, 9}},
		{[]int{-7, 0, -1}, []int{7, -1}},
		{[]int{0, top, top + 1, math.MaxInt}, []int{top, 0, 0}},
		{[]int{0, -top, -top - 1, math.MinInt}, []int{-top, 0, 0}},
		{[]int{math.MinInt, math.MaxInt, math.MinInt}, []int{2 * top, -2 * top}},
		{[]int{top - 1, math.MaxInt, 1 - top, math.MinInt}, []int{1, 1 - 2*top, -1}},
	} {
		for _, task := range append(strangers(), 0, 1, 2) {
			l := released(task, x.ats...)
			before := slices.Clone(l)
			if got := Gaps(l, task); !slices.Equal(got, x.want) {
				t.Errorf("Gaps of %v, task %d: %v, want %v", x.ats, task, got, x.want)
			}
			for _, other := range []int{task + 1, task - 1, -task - 1, task ^ 1<<40} {
				if got := Gaps(l, other); len(got) > 0 {
					t.Errorf("Gaps of %d where task %d is released: %v", other, task, got)
				}
			}
			if !slices.Equal(l, before) {
				t.Error("what was handed in is changed")
			}
		}
	}
}

func TestLate(t *testing.T) {
	c := api.Config{Tasks: []api.Task{{Period: 1, Deadline: 10}, {Period: 99, Deadline: 0}, {Deadline: -5}, {Deadline: math.MaxInt}, {Deadline: math.MinInt}}}
	for _, x := range []struct {
		task, release, end, now int
		late                    bool
	}{
		{0, 3, 13, 99, false}, {0, 3, 14, 14, true}, {0, 3, 14, 0, true}, {0, 0, 0, 99, false}, {0, 5, 3, 99, false}, {0, 0, 999, -9, true},
		{0, 3, -1, 13, false}, {0, 3, -1, 14, true}, {0, 3, -1, -1, false}, {0, 3, -9, 14, true}, {0, 3, math.MinInt, 14, true}, {0, 3, math.MinInt, 13, false},
		{0, -20, 0, 0, true}, {0, -10, 0, 0, false}, {0, -20, -1, -10, false}, {0, -20, -15, -9, true},
		{1, 4, 4, 99, false}, {1, 4, 5, 0, true}, {1, 4, -1, 4, false}, {1, 4, -1, 5, true},
		{2, 4, 0, 0, true}, {2, 9, 4, 0, false}, {2, 9, 5, 0, true},
		{3, 0, top, 0, false}, {3, 0, math.MaxInt, 0, false}, {3, -1, math.MaxInt, 0, true}, {3, -1, top - 1, 0, false}, {3, math.MinInt, 0, 0, false}, {3, math.MinInt, 1, 0, true},
		{3, math.MaxInt, math.MaxInt, math.MaxInt, false}, {3, -1, -1, math.MaxInt, true}, {3, 0, -1, math.MaxInt, false},
		{4, 0, 0, 0, true}, {4, top, 0, 0, false}, {4, top, 1, 0, true}, {4, math.MaxInt, 0, 0, false}, {4, math.MinInt, -1, math.MinInt, true},
		{0, math.MaxInt, math.MaxInt, 0, false}, {0, top - 10, math.MaxInt, 0, false}, {0, top - 11, math.MaxInt, 0, true}, {0, math.MinInt, -1, 9 - top, false}, {0, math.MinInt, -1, 11 - top, true},
	} {
		l := []api.Report{{Task: x.task, Release: x.release, Start: 1, End: x.end}}
		if got := Late(c, l, x.now); len(got) == 1 != x.late || x.late && got[0] != 0 {
			t.Errorf("%+v: %v", x, got)
		}
	}
}

func TestPlacesOfLate(t *testing.T) {
	c := config(110, 120) // deadlines 10 and 20
	l := []api.Report{
		{Task: 0, Release: 0, End: 11}, {Task: 1, Release: 0, End: 11}, {Task: 1, Release: 5, End: 26, Fault: true},
		{Task: 7, Release: 0, End: 99}, {Task: 0, Release: 30, End: -1}, {Task: 1, Release: 30, End: -1}, {Task: 0, Release: 9, End: 19}, {Task: 0, Release: 9, End: 20},
	}
	before := slices.Clone(l)
	for now, want := range map[int][]int{0: {0, 2, 7}, 40: {0, 2, 7}, 41: {0, 2, 4, 7}, 50: {0, 2, 4, 7}, 51: {0, 2, 4, 5, 7}} {
		if got := Late(c, l, now); !slices.Equal(got, want) {
			t.Errorf("Late at %d: %v, want %v", now, got, want)
		}
	}
	if !slices.Equal(l, before) {
		t.Error("what was handed in is changed")
	}
	for _, none := range [][]api.Report{nil, {}} {
		if got := Late(c, none, 99); len(got) > 0 {
			t.Error(got)
		}
	}
}

// drawn draws numbers, always the same ones of a seed.
type drawn struct{ seed uint64 }

func (d *drawn) upTo(n int) int {
	d.seed = d.seed*6364136223846793005 + 1442695040888963407
	return int(d.seed>>33) % (n + 1)
}

// flagged are the places of the releases that come too soon: each is held against all that are ahead, the last one first.
func flagged(periods []int, l []api.Record) []int {
	var places []int
	for i, r := range l {
		if r.Kind < 1 || r.Kind > 2 || r.Task < 0 || r.Task >= len(periods) {
			continue
		}
		for k := i - 1; k >= 0; k-- {
			if (l[k].Kind == 1 || l[k].Kind == 2) && l[k].Task == r.Task {
				if r.At-l[k].At < periods[r.Task] {
					places = append(places, i)
				}
				break
			}
		}
	}
	return places
}

func TestDraws(t *testing.T) {
	d := &drawn{1}
	for range 3000 {
		var periods []int
		for range d.upTo(4) {
			periods = append(periods, d.upTo(20))
		}
		var l []api.Record
		at := 0
		for range d.upTo(40) {
			at += d.upTo(9) - 1
			l = append(l, api.Record{At: at, Kind: d.upTo(4), Task: d.upTo(5) - 1, Job: d.upTo(3)})
		}
		var want []Flag
		for _, i := range flagged(periods, l) {
			want = append(want, Flag{l[i].At, l[i].Task})
		}
		wants(t, config(periods...), l, want...)
	}
}

// TestRun: of a run's own trace and reports, in which a release is lost, and jobs wait for longer than they may.
func TestRun(t *testing.T) {
	c := api.Config{Machine: api.Machine{Sets: 1, Ways: 1, Hit: 1, Miss: 1}, Tasks: []api.Task{
		{Priority: 1, Threshold: 1, Period: 10, Deadline: 9, Program: []api.Op{{Kind: api.OpCompute, A: 5}}},
		{Priority: 2, Threshold: 2, Period: 40, Deadline: 40, Program: []api.Op{{Kind: api.OpCompute, A: 30}}},
	}}
	k, e := kernel.New(c)
	if e != api.OK {
		t.Fatal(e)
	}
	for _, x := range []api.Event{
		{At: 0, Kind: api.EventRelease, A: 1}, {At: 0, Kind: api.EventTimer, A: 0, B: 10, C: 3}, {At: 39, Kind: api.EventRelease, A: 1},
		{At: 29, Kind: api.EventRelease}, {At: 29, Kind: api.EventRelease}, {At: 29, Kind: api.EventRelease},
	} {
		k.Event(x)
	}
	k.Run(45)
	wants(t, c, k.Trace(), Flag{29, 0}, Flag{29, 0}, Flag{29, 0}, Flag{39, 1})
	if got := Gaps(k.Trace(), 0); !slices.Equal(got, []int{10, 10, 9, 0, 0}) {
		t.Error(got)
	}
	if got := Late(c, k.Reports(), k.Now()); !slices.Equal(got, []int{1, 2, 3, 4}) {
		t.Error(got, k.Reports())
	}
}
