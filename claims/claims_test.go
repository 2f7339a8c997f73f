package claims

import (
	"math"
	"slices"
	"testing"

	"signalbox/admit"
	"signalbox/api"
	"signalbox/conf"
	"signalbox/kernel"
	"signalbox/monitor"
	"signalbox/play"
	"signalbox/script"
	"signalbox/twin"
)

const (
	// alone is the chapter's example: a task alone.
	alone = "machine 1 1 1 4\ntask 1 1 20 20 0 0 compute 5\n"
	// tight are two tasks of which a run meets all that is told: see met.
	tight = "machine 1 1 1 4\ntask 1 1 100 100 5 2 access 1;compute 5;access 1;compute 5;access 1\ntask 2 2 20 20 3 0 access 2;compute 2\n"
	// busy are two tasks of which one waits while the other one goes on; it isn't admitted.
	busy = "machine 1 1 1 4\ntask 1 1 10 10 0 0 compute 5\ntask 2 2 2000 2000 0 0 compute 1000\n"
	// failing is a task whose frame is overrun, and one that keeps it waiting.
	failing = "machine 1 1 1 4\ntask 1 1 50 50 3 0 compute 5;push 4;compute 9\ntask 2 2 50 50 0 0 compute 4\n"
)

// config is a text's, which must be one.
func config(t *testing.T, s string) api.Config {
	t.Helper()
	c, e := conf.Parse(s)
	if e != api.OK {
		t.Fatalf("%q: %d", s, e)
	}
	return c
}

// release is a task's, at a tick.
func release(at, task int) api.Event {
	return api.Event{At: at, Kind: api.EventRelease, A: task}
}

// played is a run, its kernel, and what is told of its configuration.
func played(t *testing.T, s string, until int, l ...api.Event) (play.Run, *kernel.Kernel, admit.Analysis) {
	t.Helper()
	c := config(t, s)
	a, e := admit.Analyse(c)
	if e != api.OK && e != api.ErrLate {
		t.Fatal(e)
	}
	r, k, e := play.Play(c, l, until)
	if e != api.OK {
		t.Fatal(e)
	}
	return r, k, a
}

// met are releases of tight with which the lower task's job comes to all that is told of it, and the upper task's first one to its Response.
func met() []api.Event {
	return []api.Event{release(0, 0), release(2, 1), release(22, 1)}
}

// want holds what Check tells against these.
func want(t *testing.T, name string, r play.Run, k *kernel.Kernel, a admit.Analysis, l ...Claim) {
	t.Helper()
	if got := Check(r, k, a); !slices.Equal(got, l) {
		t.Errorf("%s: %v, want %v", name, got, l)
	}
}

func TestExample(t *testing.T) {
	c := config(t, alone)
	for _, l := range [][]api.Event{nil, {}, {release(3, 0)}, {release(3, 0), release(23, 0)}, Worst(c, 100)} {
		for _, until := range []int{0, 3, 5, 8, 9, 100, api.MaxTime} {
			if got, e := Run(c, l, until); e != api.OK || len(got) != 0 {
				t.Errorf("%v until %d: %v, %d", l, until, got, e)
			}
		}
	}
}

// TestTight: the run that the tests below lean on meets all that is told.
func TestTight(t *testing.T) {
	r, k, a := played(t, tight, 34, met()...)
	lines := []admit.Line{
		{Cost: 22, Response: 34, Preempts: 2, Reload: 1, Extra: 2},
		{Cost: 6, Delay: 2, Response: 8},
	}
	reports := []api.Report{
		{Release: 0, Start: 0, End: 34, Displaced: 2, Misses: 3, Withheld: 2},
		{Task: 1, Release: 2, Start: 4, End: 10, Misses: 1, Base: 5},
		{Task: 1, Job: 1, Release: 22, Start: 22, End: 28, Misses: 1, Base: 5},
	}
	misses, _, e := k.Alone(0)
	if !slices.Equal(a.Lines, lines) || a.Stack != 8 || !slices.Equal(r.Reports, reports) || r.Peak != 8 || misses != 1 || e != api.OK {
		t.Errorf("%+v, %+v, %d deep, %d misses alone", a, r.Reports, r.Peak, misses)
	}
	want(t, "all of it is kept", r, k, a)
	if got, e := Run(config(t, tight), met(), 34); e != api.OK || len(got) != 0 {
		t.Error(got, e)
	}
}

// TestEachClaim: of a run that meets all that is told, each that is one less isn't kept, and nothing else.
func TestEachClaim(t *testing.T) {
	late, often, float, misses := Claim{0, "late"}, Claim{0, "often"}, Claim{0, "float"}, Claim{0, "misses"}
	for _, c := range []struct {
		name string
		less func(r *play.Run, a *admit.Analysis)
		want []Claim
	}{
		{"nothing", func(*play.Run, *admit.Analysis) {}, nil},
		{"Response", func(_ *play.Run, a *admit.Analysis) { a.Lines[0].Response = 33 }, []Claim{late}},
		{"Response of the other task", func(_ *play.Run, a *admit.Analysis) { a.Lines[1].Response = 7 }, []Claim{{1, "late"}}},
		{"Response of both", func(_ *play.Run, a *admit.Analysis) { a.Lines[0].Response, a.Lines[1].Response = 33, 5 }, []Claim{late, {1, "late"}, {2, "late"}}},
		{"Preempts", func(_ *play.Run, a *admit.Analysis) { a.Lines[0].Preempts = 1 }, []Claim{often}},
		{"Float", func(r *play.Run, _ *admit.Analysis) { r.Config.Tasks[0].Float = 1 }, []Claim{float}},
		{"Extra", func(_ *play.Run, a *admit.Analysis) { a.Lines[0].Extra = 1 }, []Claim{misses}},
		{"Reload", func(_ *play.Run, a *admit.Analysis) { a.Lines[0].Reload = 0 }, []Claim{misses}},
		{"Extra and Reload", func(_ *play.Run, a *admit.Analysis) { a.Lines[0].Extra, a.Lines[0].Reload = 0, 0 }, []Claim{misses}},
		{"Stack", func(_ *play.Run, a *admit.Analysis) { a.Stack = 7 }, []Claim{{-1, "stack"}}},
		{"what is told of cost and delay", func(_ *play.Run, a *admit.Analysis) { a.Lines[0].Cost, a.Lines[1].Delay = 0, 0 }, nil},
		{"all of a job", func(r *play.Run, a *admit.Analysis) { a.Lines[0], r.Config.Tasks[0].Float = admit.Line{}, 0 }, []Claim{late, often, float, misses}},
		{"all of it", func(r *play.Run, a *admit.Analysis) {
			*a = admit.Analysis{Lines: make([]admit.Line, 2)}
			r.Config.Tasks[0].Float = 0
		}, []Claim{late, often, float, misses, {1, "late"}, {2, "late"}, {-1, "stack"}}},
	} {
		r, k, a := played(t, tight, 34, met()...)
		c.less(&r, &a)
		want(t, c.name, r, k, a, c.want...)
	}
}

// TestMore: what a job comes to is held against what is told; the misses against those alone.
func TestMore(t *testing.T) {
	for _, c := range []struct {
		name string
		more func(p *api.Report)
		want []Claim
	}{
		{"a tick later", func(p *api.Report) { p.End++ }, []Claim{{0, "late"}}},
		{"released a tick earlier", func(p *api.Report) { p.Release-- }, []Claim{{0, "late"}}},
		{"released and done a tick later", func(p *api.Report) { p.Release++; p.End++ }, nil},
		{"begun at some tick", func(p *api.Report) { p.Start = 33 }, nil},
		{"displaced once more", func(p *api.Report) { p.Displaced++ }, []Claim{{0, "often"}}},
		{"displaced less often", func(p *api.Report) { p.Displaced-- }, []Claim{{0, "misses"}}}, // though they aren't above Extra
		{"displaced less often, a miss less", func(p *api.Report) { p.Displaced--; p.Misses-- }, nil},
		{"never displaced", func(p *api.Report) { p.Displaced = 0 }, []Claim{{0, "misses"}}},
		{"never displaced, as many misses as alone", func(p *api.Report) { p.Displaced, p.Misses = 0, 1 }, nil},
		{"never displaced, fewer misses than alone", func(p *api.Report) { p.Displaced, p.Misses = 0, 0 }, nil},
		{"displaced once more, a miss more", func(p *api.Report) { p.Displaced++; p.Misses++ }, []Claim{{0, "often"}, {0, "misses"}}},
		{"a tick more withheld", func(p *api.Report) { p.Withheld++ }, []Claim{{0, "float"}}},
		{"a miss more", func(p *api.Report) { p.Misses++ }, []Claim{{0, "misses"}}},
		{"more hits", func(p *api.Report) { p.Hits += 9 }, nil},
		{"all of it", func(p *api.Report) { *p = api.Report{End: 99, Displaced: 9, Withheld: 9, Misses: 99} }, []Claim{{0, "late"}, {0, "often"}, {0, "float"}, {0, "misses"}}},
	} {
		r, k, a := played(t, tight, 34, met()...)
		c.more(&r.Reports[0])
		want(t, c.name, r, k, a, c.want...)
	}
}

// TestFromTheSameCache: the misses are held against those of the program from the cache on that there was when the job began.
func TestFromTheSameCache(t *testing.T) {
	r, k, a := played(t, alone[:len("machine 1 1 1 4\n")]+"task 1 1 20 20 0 0 access 1\n", 40, release(0, 0), release(20, 0))
	want(t, "a miss, and none", r, k, a)
	r.Reports[1].Misses = 1
	want(t, "a miss of what is there", r, k, a, Claim{1, "misses"})
}

// TestWhoIsAsked: jobs that were kept; the stack is asked of every run, what is open and what is lost only where nobody came too soon.
func TestWhoIsAsked(t *testing.T) {
	nothing := func(a *admit.Analysis) { *a = admit.Analysis{Lines: make([]admit.Line, len(a.Lines))} }
	upper := []Claim{{1, "late"}, {2, "late"}}
	lower := []Claim{{0, "late"}, {0, "often"}, {0, "misses"}}
	both := slices.Concat(lower, upper)
	stack, open := Claim{-1, "stack"}, Claim{-1, "open"}
	for _, c := range []struct {
		name  string
		until int
		more  []api.Event
		want  []Claim
	}{
		{"all are done", 34, nil, append(slices.Clone(both), stack)},
		{"one isn't", 33, nil, append(slices.Clone(upper), stack, open)},
		{"two aren't", 27, nil, []Claim{{1, "late"}, stack, open}},
		{"nobody came", 0, nil, nil},
		{"nobody began", 1, nil, []Claim{stack, open}},
		{"one waits", 3, nil, []Claim{stack, open}},
		{"too soon in the tick of the end", 40, []api.Event{release(34, 1)}, append(slices.Clone(both), stack)},
		{"too soon a tick ahead of the end", 60, []api.Event{release(33, 1)}, append(slices.Clone(upper), stack)},
		{"too soon ahead of the last one's end", 60, []api.Event{release(27, 1)}, []Claim{{1, "late"}, stack}},
		{"too soon in the tick of the first one's end", 60, []api.Event{release(10, 1)}, []Claim{{1, "late"}, stack}},
		{"too soon at once", 60, []api.Event{release(0, 0)}, []Claim{stack}},
		{"too soon, and not done", 27, []api.Event{release(3, 1)}, []Claim{stack}},
	} {
		r, k, a := played(t, tight, c.until, append(met(), c.more...)...)
		nothing(&a)
		want(t, c.name, r, k, a, c.want...)
	}
}

// TestOpen: a job isn't done when the time told has gone by since its release.
func TestOpen(t *testing.T) {
	open := Claim{-1, "open"}
	for _, c := range []struct {
		until    int
		response uint64
		want     []Claim
	}{
		{33, 34, nil},
		{33, 33, []Claim{open}}, // it is released at 0
		{33, 32, []Claim{open}},
		{33, 0, []Claim{open}},
		{33, api.Unbounded, nil},
		{20, 21, nil},
		{20, 20, []Claim{open}},
		{34, 33, []Claim{{0, "late"}}},
	} {
		r, k, a := played(t, tight, c.until, met()...)
		a.Lines[0].Response = c.response
		want(t, "", r, k, a, c.want...)
	}
	for _, row := range []struct {
		until int
		want  []Claim
	}{{2, nil}, {3, nil}, {4, []Claim{open}}, {9, []Claim{open}}, {10, []Claim{{1, "late"}}}, {23, []Claim{{1, "late"}}}, {24, []Claim{{1, "late"}, open}}} {
		r, k, a := played(t, tight, row.until, met()...)
		a.Lines[1].Response = 2 // the upper task is released at 2 and 22, and waits at first
		want(t, "the upper task", r, k, a, row.want...)
	}
}

// TestFaults: a job with one is done, and asked nothing.
func TestFaults(t *testing.T) {
	for until, l := range map[int][]Claim{
		9:  {{1, "late"}, {-1, "stack"}, {-1, "open"}},
		10: {{1, "late"}, {-1, "stack"}},
		99: {{1, "late"}, {-1, "stack"}},
	} {
		r, k, a := played(t, failing, until, release(0, 0), release(1, 1))
		if p := r.Reports[0]; p.Fault != (until > 9) || p.Displaced != 1 {
			t.Fatalf("%+v", p)
		}
		want(t, "told", r, k, a)
		a = admit.Analysis{Lines: make([]admit.Line, 2)}
		want(t, "nothing told", r, k, a, l...)
	}
}

// TestLost: a job that found no room, where nobody came too soon.
func TestLost(t *testing.T) {
	l := []api.Event{release(0, 1), release(0, 0), release(10, 0), release(20, 0), release(30, 0), release(40, 0), release(50, 0)}
	lost := Claim{-1, "lost"}
	for _, c := range []struct {
		until, last int
		want        []Claim
	}{
		{40, 50, nil},
		{41, 50, []Claim{lost}},
		{60, 50, []Claim{lost}}, // once, though two are
		{60, 49, nil},           // that one came too soon
		{49, 49, []Claim{lost}},
		{50, 49, nil},
	} {
		l[6].At = c.last
		r, k, a := played(t, busy, c.until, l...)
		want(t, "busy", r, k, a, c.want...)
	}
	r, k, a := played(t, busy, 60, l[:6]...)
	a.Lines[0].Response, a.Stack = 60, -1
	want(t, "all of a run", r, k, a, Claim{-1, "stack"}, Claim{-1, "open"}, lost)
}

func TestStack(t *testing.T) {
	for stack, l := range map[int][]Claim{0: {{-1, "stack"}}, 7: {{-1, "stack"}}, 8: nil, 9: nil, math.MaxInt: nil, math.MinInt: {{-1, "stack"}}} {
		r, k, a := played(t, tight, 34, met()...)
		a.Stack = stack
		want(t, "", r, k, a, l...)
		r.Flagged, r.Flag = true, monitor.Flag{At: 3}
		want(t, "flagged", r, k, a, l...)
	}
}

// TestWhatIsNotTold: of tasks that there aren't nothing is told, so nothing is asked; neither are misses, where the kernel doesn't know those alone.
func TestWhatIsNotTold(t *testing.T) {
	want(t, "nothing", play.Run{}, nil, admit.Analysis{})
	less := func(a *admit.Analysis) { a.Lines[0] = admit.Line{} }
	late, often, float, misses := Claim{0, "late"}, Claim{0, "often"}, Claim{0, "float"}, Claim{0, "misses"}
	for _, c := range []struct {
		name  string
		spoil func(r *play.Run, k **kernel.Kernel, a *admit.Analysis)
		want  []Claim
	}{
		{"all is there", func(*play.Run, **kernel.Kernel, *admit.Analysis) {}, []Claim{late, often, float, misses}},
		{"no kernel", func(_ *play.Run, k **kernel.Kernel, _ *admit.Analysis) { *k = nil }, []Claim{late, often, float}},
		{"an empty kernel", func(_ *play.Run, k **kernel.Kernel, _ *admit.Analysis) { *k = &kernel.Kernel{} }, []Claim{late, often, float}},
		{"no lines", func(_ *play.Run, _ **kernel.Kernel, a *admit.Analysis) { a.Lines = nil }, []Claim{float}},
		{"no configuration", func(r *play.Run, _ **kernel.Kernel, _ *admit.Analysis) { r.Config = api.Config{} }, []Claim{late, often, misses}},
		{"no such task", func(r *play.Run, _ **kernel.Kernel, _ *admit.Analysis) { r.Reports[0].Task = 2 }, nil},
		{"a task below 0", func(r *play.Run, _ **kernel.Kernel, _ *admit.Analysis) { r.Reports[0].Task = math.MinInt }, nil},
		{"a task far above", func(r *play.Run, _ **kernel.Kernel, _ *admit.Analysis) { r.Reports[0].Task = math.MaxInt }, nil},
	} {
		r, k, a := played(t, tight, 34, met()...)
		less(&a)
		r.Config.Tasks[0].Float = 0
		c.spoil(&r, &k, &a)
		want(t, c.name, r, k, a, c.want...)
		r.Reports[0].End = -1
		open := []Claim{{-1, "open"}}
		if !slices.Contains(c.want, late) {
			open = nil
		}
		want(t, c.name+", not done", r, k, a, open...)
	}
}

// TestGreatNumbers: sums and products that no int holds.
func TestGreatNumbers(t *testing.T) {
	const whole = api.Unbounded
	for _, c := range []struct {
		name string
		p    api.Report
		l    admit.Line
		now  int
		want []Claim
	}{
		{"the longest response", api.Report{Release: math.MinInt, End: math.MaxInt}, admit.Line{Response: whole}, 0, nil},
		{"the longest one, a tick too long", api.Report{Release: math.MinInt, End: math.MaxInt}, admit.Line{Response: whole - 1}, 0, []Claim{{0, "late"}}},
		{"released below 0", api.Report{Release: -5, End: 3}, admit.Line{Response: 8}, 0, nil},
		{"released below 0, a tick too long", api.Report{Release: -5, End: 3}, admit.Line{Response: 7}, 0, []Claim{{0, "late"}}},
		{"done ahead of its release", api.Report{Release: math.MaxInt}, admit.Line{}, 0, nil},
		{"displaced as often as can be", api.Report{Displaced: math.MaxInt}, admit.Line{Preempts: math.MaxInt}, 0, nil},
		{"displaced once more than that", api.Report{Displaced: math.MaxInt}, admit.Line{Preempts: math.MaxInt - 1}, 0, []Claim{{0, "often"}}},
		{"displaced less than never", api.Report{Displaced: math.MinInt}, admit.Line{}, 0, nil},
		{"displaced less than never, with misses", api.Report{Displaced: -1, Misses: 2}, admit.Line{Extra: 9, Reload: whole}, 0, []Claim{{0, "misses"}}},
		{"withheld as long as can be", api.Report{Withheld: math.MaxInt}, admit.Line{}, 0, []Claim{{0, "float"}}},
		{"withheld less than never", api.Report{Withheld: math.MinInt}, admit.Line{}, 0, nil},
		{"as many misses as can be", api.Report{Displaced: 2, Misses: math.MaxInt}, admit.Line{Preempts: 2, Extra: whole, Reload: whole}, 0, nil},
		{"misses of a product that wraps round", api.Report{Displaced: 4, Misses: 9}, admit.Line{Preempts: 4, Extra: 9, Reload: 1 << 62}, 0, nil},
		{"misses of a sum that wraps round", api.Report{Displaced: 1, Misses: 9}, admit.Line{Preempts: 1, Extra: whole, Reload: whole}, 0, nil},
		{"more misses than Extra", api.Report{Displaced: 1, Misses: math.MaxInt}, admit.Line{Preempts: 1, Extra: math.MaxInt - 2, Reload: whole}, 0, []Claim{{0, "misses"}}},
		{"misses below 0", api.Report{Misses: math.MinInt}, admit.Line{}, 0, nil},
		{"open for long", api.Report{Release: math.MinInt, End: -1}, admit.Line{Response: 1 << 63}, 0, []Claim{{-1, "open"}}},
		{"open for a tick less", api.Report{Release: math.MinInt, End: -1}, admit.Line{Response: 1<<63 + 1}, 0, nil},
		{"open, released behind now", api.Report{Release: 1, End: -1}, admit.Line{}, 0, nil},
		{"open, released behind all", api.Report{Release: math.MaxInt, End: -1}, admit.Line{}, math.MinInt, nil},
		{"open, released now", api.Report{Release: 5, End: math.MinInt}, admit.Line{}, 5, []Claim{{-1, "open"}}},
		{"open, a response that wraps round", api.Report{Release: 5, End: -1}, admit.Line{Response: whole}, 9, nil},
	} {
		r, k, a := played(t, tight, 34, release(0, 0)) // alone it misses once
		r.Reports, r.Now, r.Config.Tasks[0].Float, a.Lines[0] = []api.Report{c.p}, c.now, 0, c.l
		want(t, c.name, r, k, a, c.want...)
	}
}

// TestRunRefuses: the analysis' error ahead of the run's, and nothing beside.
func TestRunRefuses(t *testing.T) {
	late := config(t, alone)
	late.Tasks[0].Deadline = 4
	bad := config(t, alone)
	bad.Tasks[0].Threshold = 0
	lines := config(t, alone)
	lines.Lines = make([]int, 9)
	for _, c := range []struct {
		config api.Config
		until  int
		want   api.Errno
	}{
		{config(t, alone), -1, api.ErrRange},
		{config(t, alone), math.MinInt, api.ErrRange},
		{config(t, alone), api.MaxTime + 1, api.ErrRange},
		{config(t, alone), math.MaxInt, api.ErrRange},
		{api.Config{}, 50, api.ErrRange},
		{bad, 50, api.ErrRange},
		{lines, 50, api.ErrMany},
		{lines, -1, api.ErrMany},
		{late, 50, api.ErrLate},
		{late, -1, api.ErrLate},
		{config(t, busy), 50, api.ErrLate},
	} {
		if got, e := Run(c.config, []api.Event{release(0, 0)}, c.until); len(got) != 0 || e != c.want {
			t.Errorf("%+v until %d: %v, %d, want %d", c.config, c.until, got, e, c.want)
		}
	}
	for _, until := range []int{0, api.MaxTime} {
		if got, e := Run(config(t, alone), nil, until); len(got) != 0 || e != api.OK {
			t.Errorf("until %d: %v, %d", until, got, e)
		}
	}
}

// TestRunOfRefusedEvents: those that the kernel refuses don't come.
func TestRunOfRefusedEvents(t *testing.T) {
	l := []api.Event{release(-1, 0), release(5, 1), {At: 3, Kind: 9}, release(api.MaxTime+1, 0), {At: 4, Kind: api.EventTimer}, {At: 2, Kind: api.EventRaise}}
	if got, e := Run(config(t, alone), l, 90); len(got) != 0 || e != api.OK {
		t.Error(got, e)
	}
	many := slices.Repeat([]api.Event{release(0, 0)}, 3*api.MaxEvents)
	if got, e := Run(config(t, alone), many, 90); len(got) != 0 || e != api.OK {
		t.Error(got, e)
	}
}

func TestWorst(t *testing.T) {
	c := config(t, tight)
	for _, row := range []struct {
		until int
		want  []api.Event
	}{
		{math.MinInt, nil},
		{0, nil},
		{1, []api.Event{release(0, 0), release(0, 1)}},
		{20, []api.Event{release(0, 0), release(0, 1)}},
		{21, []api.Event{release(0, 0), release(0, 1), release(20, 1)}},
		{101, []api.Event{release(0, 0), release(100, 0), release(0, 1), release(20, 1), release(40, 1), release(60, 1), release(80, 1), release(100, 1)}},
	} {
		for range 2 {
			got := Worst(c, row.until)
			if !slices.Equal(got, row.want) {
				t.Errorf("until %d: %v, want %v", row.until, got, row.want)
			}
			clear(got) // which the next call doesn't see
		}
	}
	for _, until := range []int{20 * 254, 20*255 + 1, api.MaxTime, math.MaxInt} {
		got := Worst(c, until)
		if !slices.Equal(got, script.Periodic(c, until)) || until > 20*255 && len(got) != api.MaxEvents {
			t.Errorf("until %d: %d", until, len(got))
		}
		if claims, e := Run(c, got, min(until, api.MaxTime)); len(claims) != 0 || e != api.OK {
			t.Errorf("until %d: %v, %d", until, claims, e)
		}
	}
	none := api.Config{Tasks: []api.Task{{}, {Period: -1}, {Period: math.MinInt}, {Period: 7}}}
	if got := Worst(none, 9); !slices.Equal(got, []api.Event{release(0, 3), release(7, 3)}) {
		t.Error(got)
	}
	if got := Worst(api.Config{}, 9); len(got) != 0 {
		t.Error(got)
	}
}

// TestNothingIsChanged: neither what is handed in, nor, by the asker, what is told the next time.
func TestNothingIsChanged(t *testing.T) {
	r, k, a := played(t, tight, 34, met()...)
	a.Lines[0] = admit.Line{}
	config, lines, reports, trace, codes := twin.Config(r.Config), slices.Clone(a.Lines), slices.Clone(r.Reports), slices.Clone(r.Trace), slices.Clone(r.Codes)
	for range 2 {
		got := Check(r, k, a)
		if !slices.Equal(got, []Claim{{0, "late"}, {0, "often"}, {0, "misses"}}) {
			t.Error(got)
		}
		clear(got)
	}
	if !conf.Same(r.Config, config) || !slices.Equal(a.Lines, lines) || !slices.Equal(r.Reports, reports) || !slices.Equal(r.Trace, trace) || !slices.Equal(r.Codes, codes) {
		t.Error("what was handed in is changed")
	}
	if k.Now() != 34 || k.Run(40) != api.OK {
		t.Error("the kernel has gone on")
	}
	c, l := twin.Config(config), met()
	Run(c, l, 34)
	Worst(c, 500)
	if !conf.Same(c, config) || !slices.Equal(l, met()) {
		t.Error("what was handed in is changed")
	}
}
