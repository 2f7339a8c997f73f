package gantt

import (
	"math"
	"slices"
	"strings"
	"testing"

	"signalbox/api"
)

// rec is a record of a job.
func rec(at, kind, task, job int) api.Record {
	return api.Record{At: at, Kind: kind, Task: task, Job: job}
}

func TestExample(t *testing.T) {
	trace := []api.Record{rec(3, api.RecRelease, 0, 0), rec(3, api.RecStart, 0, 0), rec(8, api.RecDone, 0, 0)}
	want := []Piece{{0, 3, -1, 0}, {3, 8, 0, 0}, {8, 10, -1, 0}}
	got := Of(trace, 10)
	if !slices.Equal(got, want) {
		t.Errorf("%v", got)
	}
	if s := Text(got); s != "...00000.." {
		t.Error(s)
	}
}

// nested is a trace of jobs on top of each other, one of which fails, with all kinds of records.
func nested() []api.Record {
	return []api.Record{
		rec(2, api.RecRelease, 4, 0), rec(2, api.RecStart, 4, 0),
		rec(4, api.RecCall, 4, 0),
		rec(5, api.RecRelease, 1, 0), rec(5, api.RecDisplace, 4, 0), rec(5, api.RecStart, 1, 0),
		rec(6, api.RecRelease, 4, 1), rec(7, api.RecLost, 4, 2),
		rec(8, api.RecDisplace, 1, 0), rec(8, api.RecStart, 12, 3),
		rec(9, api.RecFault, 12, 3), rec(9, api.RecResume, 1, 0),
		rec(12, api.RecDone, 1, 0), rec(12, api.RecResume, 4, 0),
		rec(13, api.RecDone, 4, 0), rec(13, api.RecStart, 4, 1),
	}
}

func TestOf(t *testing.T) {
	all := []Piece{{0, 2, -1, 0}, {2, 5, 4, 0}, {5, 8, 1, 0}, {8, 9, 12, 3}, {9, 12, 1, 0}, {12, 13, 4, 0}, {13, 16, 4, 1}}
	for _, c := range []struct {
		name  string
		l     []api.Record
		until int
		want  []Piece
	}{
		{"nothing", nil, 0, nil},
		{"nothing, below 0", nil, -1, nil},
		{"nothing, far below 0", []api.Record{}, math.MinInt, nil},
		{"nobody", nil, 7, []Piece{{0, 7, -1, 0}}},
		{"nobody for long", nil, math.MaxInt, []Piece{{0, math.MaxInt, -1, 0}}},
		{"up to the end", nested(), 16, all},
		{"up to where one begins", nested(), 13, all[:6]},
		{"up to the middle of one", nested(), 4, []Piece{{0, 2, -1, 0}, {2, 4, 4, 0}}},
		{"up to where another one begins", nested(), 8, all[:3]},
		{"a tick behind", nested(), 9, all[:4]},
		{"ahead of all", nested(), 1, []Piece{{0, 1, -1, 0}}},
		{"up to 0", nested(), 0, nil},
		{"below 0", nested(), -3, nil},
		{"one that goes on", nested()[:2], math.MaxInt, []Piece{{0, 2, -1, 0}, {2, math.MaxInt, 4, 0}}},
		{"from 0 on", []api.Record{rec(0, api.RecStart, 0, 0), rec(4, api.RecDone, 0, 0)}, 4, []Piece{{0, 4, 0, 0}}},
		{"two jobs of a task", []api.Record{rec(0, api.RecStart, 0, 0), rec(4, api.RecDone, 0, 0), rec(4, api.RecStart, 0, 1), rec(6, api.RecFault, 0, 1)}, 7, []Piece{{0, 4, 0, 0}, {4, 6, 0, 1}, {6, 7, -1, 0}}},
		{"nobody in between", []api.Record{rec(1, api.RecStart, 3, 0), rec(2, api.RecDone, 3, 0), rec(4, api.RecStart, 3, 1), rec(6, api.RecDone, 3, 1)}, 6, []Piece{{0, 1, -1, 0}, {1, 2, 3, 0}, {2, 4, -1, 0}, {4, 6, 3, 1}}},
		// one that was done a tick ahead leaves the top, which is displaced anew at once
		{"displaced anew", []api.Record{rec(0, api.RecStart, 0, 0), rec(2, api.RecDisplace, 0, 0), rec(2, api.RecStart, 1, 0), rec(3, api.RecDone, 1, 0), rec(3, api.RecDisplace, 0, 0), rec(3, api.RecStart, 1, 1), rec(5, api.RecDone, 1, 1), rec(5, api.RecResume, 0, 0)}, 6, []Piece{{0, 2, 0, 0}, {2, 3, 1, 0}, {3, 5, 1, 1}, {5, 6, 0, 0}}},
	} {
		was := slices.Clone(c.l)
		if got := Of(c.l, c.until); !slices.Equal(got, c.want) {
			t.Errorf("%s: %v, want %v", c.name, got, c.want)
		}
		if !slices.Equal(c.l, was) {
			t.Errorf("%s: the trace is changed", c.name)
		}
	}
}

// drawing draws numbers from 0 on, below n, always the same ones of a seed.
func drawing(seed uint64) func(n int) int {
	return func(n int) int {
		seed = seed*6364136223846793005 + 1442695040888963407
		return int(seed>>33) % n
	}
}

// TestOfAnyRecords: also of records that no kernel makes, pieces are without gaps, unlike their neighbours, and not empty.
func TestOfAnyRecords(t *testing.T) {
	draw := drawing(34)
	ticks := []int{math.MinInt, math.MinInt + 1, -5, -1, 0, 1, 2, 3, 4, 5, 6, 7, 8, 9, math.MaxInt - 1, math.MaxInt}
	for range 20000 {
		l := make([]api.Record, draw(9))
		for i := range l {
			l[i] = rec(ticks[draw(len(ticks))], draw(10)-1, draw(4)-1, draw(2))
		}
		until := ticks[draw(len(ticks))]
		seamless(t, Of(l, until), until)
	}
}

// seamless asks whether pieces are of a whole run.
func seamless(t *testing.T, l []Piece, until int) {
	t.Helper()
	at := 0
	for i, p := range l {
		if p.From != at || p.To <= p.From || i > 0 && p.Task == l[i-1].Task && p.Job == l[i-1].Job {
			t.Fatalf("piece %d of %v", i, l)
		}
		at = p.To
	}
	if at != max(until, 0) {
		t.Fatalf("%v end at %d, not %d", l, at, until)
	}
}

// some are pieces in a row, with some that are empty, or turned round.
func some() []Piece {
	return []Piece{{0, 3, -1, 0}, {3, 3, 2, 0}, {3, 8, 0, 0}, {9, 4, 0, 0}, {8, 10, -1, 0}, {10, 11, 0, 1}, {11, 15, 2, 0}, {15, 16, -2, 0}, {16, 19, 10, 0}, {20, 22, 9, 0}}
}

func TestBusyAndIdle(t *testing.T) {
	for task, want := range map[int]int{0: 6, 1: 0, 2: 4, 9: 2, 10: 3, -2: 1, -3: 0, math.MaxInt: 0, math.MinInt: 0} {
		if got := Busy(some(), task); got != want {
			t.Errorf("task %d: %d, want %d", task, got, want)
		}
	}
	if got := Idle(some()); got != 5 {
		t.Error("nobody:", got)
	}
	for _, l := range [][]Piece{nil, {}, {{4, 4, 0, 0}}, {{5, 4, 0, 0}, {5, 4, -1, 0}}, {{math.MaxInt, math.MinInt, 0, 0}, {math.MaxInt, math.MinInt, -1, 0}}, {{0, -1, 0, 0}, {0, math.MinInt, -1, 0}}, {{7, 9, 1, 0}}} {
		if Busy(l, 0) != 0 || Idle(l) != 0 {
			t.Errorf("%v: %d, %d", l, Busy(l, 0), Idle(l))
		}
	}
}

// TestTooManyTicks: what an int can't tell stays at the greatest one.
func TestTooManyTicks(t *testing.T) {
	for _, c := range []struct {
		l    []Piece
		want int
	}{
		{[]Piece{{0, math.MaxInt, 0, 0}}, math.MaxInt},
		{[]Piece{{math.MinInt, -1, 0, 0}}, math.MaxInt},
		{[]Piece{{math.MinInt, -2, 0, 0}}, math.MaxInt - 1},
		{[]Piece{{math.MinInt, 0, 0, 0}}, math.MaxInt},
		{[]Piece{{math.MinInt, math.MaxInt, 0, 0}}, math.MaxInt},
		{[]Piece{{-2, math.MaxInt, 0, 0}}, math.MaxInt},
		{[]Piece{{1, math.MaxInt, 0, 0}, {5, 6, 0, 1}}, math.MaxInt},
		{[]Piece{{1, math.MaxInt, 0, 0}, {5, 7, 0, 1}}, math.MaxInt},
		{[]Piece{{2, math.MaxInt, 0, 0}, {5, 6, 0, 1}}, math.MaxInt - 1},
		{[]Piece{{0, math.MaxInt, 0, 0}, {0, math.MaxInt, 0, 0}, {0, math.MaxInt, 0, 0}}, math.MaxInt},
	} {
		if got := Busy(c.l, 0); got != c.want {
			t.Errorf("%v: %d, want %d", c.l, got, c.want)
		}
		for i := range c.l {
			c.l[i].Task = -1
		}
		if got := Idle(c.l); got != c.want {
			t.Errorf("%v, nobody's: %d, want %d", c.l, got, c.want)
		}
	}
}

func TestAt(t *testing.T) {
	l := some()
	for _, c := range []struct{ tick, place int }{
		{-1, -1}, {math.MinInt, -1}, {0, 0}, {2, 0}, {3, 2}, {7, 2}, {8, 4}, {9, 4}, {10, 5}, {11, 6}, {14, 6}, {15, 7}, {16, 8}, {18, 8}, {19, -1}, {20, 9}, {21, 9}, {22, -1}, {math.MaxInt, -1},
	} {
		want, has := Piece{}, c.place >= 0
		if has {
			want = l[c.place]
		}
		if got, ok := At(l, c.tick); got != want || ok != has {
			t.Errorf("%d: %v, %v", c.tick, got, ok)
		}
	}
	if got, ok := At(nil, 0); got != (Piece{}) || ok {
		t.Error(got, ok)
	}
	twice := []Piece{{5, 9, 1, 0}, {0, 7, 2, 0}, {6, 8, 3, 0}}
	for tick, want := range map[int]Piece{0: twice[1], 4: twice[1], 5: twice[0], 6: twice[0], 8: twice[0]} {
		if got, ok := At(twice, tick); got != want || !ok {
			t.Errorf("the first one that has %d: %v, %v", tick, got, ok)
		}
	}
	ends := []Piece{{math.MinInt, math.MaxInt, 0, 0}}
	if _, ok := At(ends, math.MaxInt); ok {
		t.Error("behind the last tick")
	}
	if got, ok := At(ends, math.MinInt); got != ends[0] || !ok {
		t.Error("the first tick there is")
	}
}

func TestJoin(t *testing.T) {
	for _, c := range []struct {
		name    string
		l, want []Piece
	}{
		{"nothing", nil, nil},
		{"none", []Piece{}, nil},
		{"empty ones", []Piece{{3, 3, 0, 0}, {5, 4, 0, 0}, {math.MaxInt, math.MinInt, 0, 0}, {0, 0, -1, 0}}, nil},
		{"one", []Piece{{3, 4, 0, 0}}, []Piece{{3, 4, 0, 0}}},
		{"two that touch", []Piece{{3, 4, 0, 0}, {4, 6, 0, 0}}, []Piece{{3, 6, 0, 0}}},
		{"three", []Piece{{3, 4, 0, 2}, {4, 6, 0, 2}, {6, 7, 0, 2}}, []Piece{{3, 7, 0, 2}}},
		{"nobody's", []Piece{{3, 4, -1, 0}, {4, 6, -1, 0}}, []Piece{{3, 6, -1, 0}}},
		{"of another task", []Piece{{3, 4, 0, 0}, {4, 6, 1, 0}}, []Piece{{3, 4, 0, 0}, {4, 6, 1, 0}}},
		{"of another job", []Piece{{3, 4, 0, 0}, {4, 6, 0, 1}}, []Piece{{3, 4, 0, 0}, {4, 6, 0, 1}}},
		{"a gap", []Piece{{3, 4, 0, 0}, {5, 6, 0, 0}}, []Piece{{3, 4, 0, 0}, {5, 6, 0, 0}}},
		{"one upon the other", []Piece{{3, 6, 0, 0}, {5, 8, 0, 0}}, []Piece{{3, 6, 0, 0}, {5, 8, 0, 0}}},
		{"the later one first", []Piece{{4, 6, 0, 0}, {3, 4, 0, 0}}, []Piece{{4, 6, 0, 0}, {3, 4, 0, 0}}},
		{"an empty one between", []Piece{{3, 4, 0, 0}, {4, 4, 1, 0}, {9, 2, 1, 0}, {4, 6, 0, 0}}, []Piece{{3, 6, 0, 0}}},
		{"empty ones at the ends", []Piece{{3, 3, 0, 0}, {3, 4, 0, 0}, {4, 4, 0, 0}}, []Piece{{3, 4, 0, 0}}},
		{"an empty one that touches doesn't bridge", []Piece{{3, 4, 0, 0}, {4, 3, 0, 0}, {3, 5, 0, 0}}, []Piece{{3, 4, 0, 0}, {3, 5, 0, 0}}},
		{"some", some(), []Piece{{0, 3, -1, 0}, {3, 8, 0, 0}, {8, 10, -1, 0}, {10, 11, 0, 1}, {11, 15, 2, 0}, {15, 16, -2, 0}, {16, 19, 10, 0}, {20, 22, 9, 0}}},
		{"up to the last tick", []Piece{{math.MinInt, 0, 0, 0}, {0, math.MaxInt, 0, 0}}, []Piece{{math.MinInt, math.MaxInt, 0, 0}}},
	} {
		was := slices.Clone(c.l)
		got := Join(c.l)
		if !slices.Equal(got, c.want) {
			t.Errorf("%s: %v, want %v", c.name, got, c.want)
		}
		for i := range got {
			got[i] = Piece{7, 7, 7, 7}
		}
		if !slices.Equal(c.l, was) {
			t.Errorf("%s: %v is changed, or shared: %v", c.name, was, c.l)
		}
	}
}

func TestText(t *testing.T) {
	for _, c := range []struct {
		l    []Piece
		want string
	}{
		{nil, ""}, {[]Piece{}, ""}, {[]Piece{{3, 3, 0, 0}, {9, 4, 1, 0}, {math.MaxInt, math.MinInt, 2, 0}}, ""},
		{some(), "...00000..02222++++99"},
		{[]Piece{{0, 1, 0, 0}, {1, 2, 1, 0}, {2, 3, 2, 0}, {3, 4, 3, 0}, {4, 5, 4, 0}, {5, 6, 5, 0}, {6, 7, 6, 0}, {7, 8, 7, 0}, {8, 9, 8, 0}, {9, 10, 9, 0}}, "0123456789"},
		{[]Piece{{0, 1, 10, 0}, {1, 2, 11, 0}, {2, 3, -2, 0}, {3, 4, -1, 0}, {4, 5, math.MaxInt, 0}, {5, 6, math.MinInt, 0}}, "+++.++"},
		{[]Piece{{0, 79, 5, 0}}, strings.Repeat("5", 79)},
		{[]Piece{{0, 80, 5, 0}}, strings.Repeat("5", 80)},
		{[]Piece{{0, 81, 5, 0}}, strings.Repeat("5", 80)},
		{[]Piece{{0, 1000, -1, 0}, {1000, 1001, 3, 9}, {1001, 1 << 40, 77, 0}}, strings.Repeat(".", 80) + "3" + strings.Repeat("+", 80)},
		{[]Piece{{0, 50, 1, 0}, {50, 100, 1, 0}}, strings.Repeat("1", 100)}, // each as it is
		{[]Piece{{-4, -1, 1, 0}, {5, 7, 1, 0}, {5, 7, 1, 0}}, "1111111"},
		{[]Piece{{math.MinInt, math.MaxInt, 1, 0}}, strings.Repeat("1", 80)},
	} {
		if got := Text(c.l); got != c.want {
			t.Errorf("%v: %q, want %q", c.l, got, c.want)
		}
	}
}

// TestTickByTick holds what is told of any pieces against counts of their ticks, one by one.
func TestTickByTick(t *testing.T) {
	draw := drawing(341)
	for range 20000 {
		l := make([]Piece, draw(8))
		at := draw(5) - 2
		for i := range l {
			l[i] = Piece{at, at + draw(4) - 1, draw(4) - 1, draw(2)}
			at = l[i].To + draw(2)*draw(3)
		}
		tickByTick(t, l)
	}
}

func tickByTick(t *testing.T, l []Piece) {
	t.Helper()
	counts := map[int]int{}
	var jobs [][3]int // each tick, with whose it is
	var signs strings.Builder
	for _, p := range l {
		for tick := p.From; tick < p.To; tick++ {
			counts[p.Task]++
			jobs = append(jobs, [3]int{tick, p.Task, p.Job})
			signs.WriteByte(".012"[p.Task+1])
		}
	}
	for task := range 4 {
		if got := Busy(l, task); got != counts[task] {
			t.Fatalf("%v, task %d: %d", l, task, got)
		}
	}
	if Idle(l) != counts[-1] || Text(l) != signs.String() {
		t.Fatalf("%v: %d are nobody's; %q", l, Idle(l), Text(l))
	}
	for tick := -9; tick < 30; tick++ {
		first := slices.IndexFunc(jobs, func(j [3]int) bool { return j[0] == tick })
		p, ok := At(l, tick)
		if ok != (first >= 0) || ok && (p.Task != jobs[first][1] || p.Job != jobs[first][2] || !slices.Contains(l, p)) {
			t.Fatalf("%v at %d: %v, %v", l, tick, p, ok)
		}
	}
	var want []Piece // tick by tick, each beside the one ahead
	for i, j := range jobs {
		if i > 0 && j == [3]int{jobs[i-1][0] + 1, jobs[i-1][1], jobs[i-1][2]} {
			want[len(want)-1].To++
			continue
		}
		want = append(want, Piece{j[0], j[0] + 1, j[1], j[2]})
	}
	if got := Join(l); !slices.Equal(got, want) {
		t.Fatalf("%v joined: %v, want %v", l, got, want)
	}
}
