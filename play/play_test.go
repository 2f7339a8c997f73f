package play

import (
	"math"
	"reflect"
	"slices"
	"testing"

	"signalbox/api"
	"signalbox/conf"
	"signalbox/kernel"
	"signalbox/monitor"
	"signalbox/script"
)

const (
	small  = "machine 1 2 1 9\ntask 1 1 9 9 0 0 compute 5\n"
	large  = "machine 2 2 1 4\nmailbox 2\ngroups 1\ncount 1\nceiling 9\ntask 1 1 40 40 5 2 access 1;lock 0;compute 3;unlock 0;send 0 7;compute 4\ntask 5 7 20 20 4 0 enter;access 1;access 2;exit;give 0;compute 2\ntask 9 9 10 8 3 0 push 3;push 1\nline 1\nline 2\n"
	events = "0 release 0\n2 raise 0\n3 mask 1\n4 raise 1\n9 unmask 1\n5 timer 0 40 3\n20 release 1\n26 release 2\nuntil 200\n"
)

// drawn draws numbers, always the same ones of a seed.
type drawn struct{ seed uint64 }

func (d *drawn) upTo(n int) int {
	d.seed = d.seed*6364136223846793005 + 1442695040888963407
	return int(d.seed>>33) % (n + 1)
}

// event is one of up to three tasks, now and then one that may not be.
func (d *drawn) event() api.Event {
	e := api.Event{At: d.upTo(100), Kind: 1 + d.upTo(4), A: d.upTo(2)}
	if e.Kind == api.EventTimer {
		e.B, e.C = 1+d.upTo(60), 1+d.upTo(4)
	}
	if d.upTo(9) == 0 {
		e.At = []int{-1, 1<<24 + 1, math.MinInt, math.MaxInt}[d.upTo(3)]
	}
	if d.upTo(9) == 0 {
		e.Kind = []int{-1, 0, 6, math.MaxInt}[d.upTo(3)]
	}
	return e
}

func (d *drawn) events(n int) []api.Event {
	var l []api.Event
	for range n {
		l = append(l, d.event())
	}
	return l
}

// config is a text's, which must be one.
func config(t *testing.T, s string) api.Config {
	t.Helper()
	c, e := conf.Parse(s)
	if e != api.OK {
		t.Fatalf("%q: %d", s, e)
	}
	return c
}

// plain plays by hand.
func plain(t *testing.T, c api.Config, l []api.Event, until int) (Run, *kernel.Kernel) {
	t.Helper()
	k, e := kernel.New(c)
	if e != api.OK {
		t.Fatal(e)
	}
	r := Run{Config: c}
	for _, event := range l {
		r.Codes = append(r.Codes, k.Event(event))
	}
	if e := k.Run(until); e != api.OK {
		t.Fatal(e)
	}
	r.Trace, r.Reports, r.Now, r.Peak = k.Trace(), k.Reports(), k.Now(), k.Peak()
	if all := monitor.All(c, r.Trace); len(all) > 0 {
		r.Flag, r.Flagged = all[0], true
	}
	return r, k
}

// same asks whether runs are the same, all through.
func same(a, b Run) bool {
	return conf.Same(a.Config, b.Config) && slices.Equal(a.Trace, b.Trace) && slices.Equal(a.Reports, b.Reports) && slices.Equal(a.Codes, b.Codes) &&
		a.Now == b.Now && a.Peak == b.Peak && a.Flag == b.Flag && a.Flagged == b.Flagged
}

// refused asks whether there is nothing but an error.
func refused(t *testing.T, r Run, k *kernel.Kernel, e, want api.Errno) {
	t.Helper()
	if !reflect.DeepEqual(r, Run{}) || k != nil || e != want {
		t.Errorf("%+v, %v, %d, want %d", r, k, e, want)
	}
}

func TestExample(t *testing.T) {
	for _, l := range [][]api.Event{nil, {}} {
		r, k, e := Play(config(t, small), l, 100)
		if e != api.OK || len(r.Reports) != 0 || len(r.Trace) != 0 || len(r.Codes) != 0 || r.Now != 100 || r.Peak != 0 || r.Flagged || k.Now() != 100 {
			t.Errorf("%+v, %d", r, e)
		}
		if Done(r) != nil || Kept(r) != nil {
			t.Error("jobs that there aren't")
		}
	}
}

func TestOneRun(t *testing.T) {
	c := config(t, small)
	r, k, e := Play(c, []api.Event{{At: 3, Kind: api.EventRelease}, {At: 12, Kind: api.EventRelease}, {At: 20, Kind: api.EventRelease}}, 26)
	want := Run{
		Config: c,
		Trace: []api.Record{
			{At: 3, Kind: api.RecRelease}, {At: 3, Kind: api.RecStart}, {At: 8, Kind: api.RecDone},
			{At: 12, Kind: api.RecRelease, Job: 1}, {At: 12, Kind: api.RecStart, Job: 1}, {At: 17, Kind: api.RecDone, Job: 1},
			{At: 20, Kind: api.RecRelease, Job: 2}, {At: 20, Kind: api.RecStart, Job: 2}, {At: 25, Kind: api.RecDone, Job: 2},
		},
		Reports: []api.Report{{Release: 3, Start: 3, End: 8}, {Job: 1, Release: 12, Start: 12, End: 17}, {Job: 2, Release: 20, Start: 20, End: 25}},
		Codes:   []api.Errno{0, 0, 0}, Now: 26, Flag: monitor.Flag{At: 20}, Flagged: true,
	}
	if !same(r, want) || e != api.OK {
		t.Errorf("%+v, %d", r, e)
	}
	if got := Done(r); !slices.Equal(got, []int{0, 1, 2}) {
		t.Error(got)
	}
	if got := Kept(r); !slices.Equal(got, []int{0, 1}) {
		t.Error(got)
	}
	if k.Event(api.Event{At: 30, Kind: api.EventRelease}) != api.OK || k.Run(40) != api.OK || len(k.Reports()) != 4 {
		t.Error("the kernel doesn't go on")
	}
	if len(r.Reports) != 3 || len(r.Trace) != 9 || r.Now != 26 {
		t.Error("the run goes on with its kernel")
	}
}

// TestCodes: what came of each event, in order; what is refused changes nothing.
func TestCodes(t *testing.T) {
	l := []api.Event{
		{At: 3, Kind: api.EventRelease}, {At: 3, Kind: 6}, {At: 3}, {At: -1, Kind: api.EventRelease}, {At: 1<<24 + 1, Kind: api.EventRelease},
		{At: 1 << 24, Kind: api.EventRelease}, {Kind: api.EventRelease, A: 1}, {Kind: api.EventRaise}, {Kind: api.EventTimer, B: 0, C: 1}, {At: 30, Kind: api.EventTimer, B: 10, C: 2},
	}
	want := []api.Errno{0, api.ErrArg, api.ErrArg, api.ErrRange, api.ErrRange, 0, api.ErrNone, api.ErrNone, api.ErrRange, 0}
	r, _, e := Play(config(t, small), l, 50)
	if e != api.OK || !slices.Equal(r.Codes, want) || len(r.Reports) != 3 {
		t.Errorf("%+v, %d", r, e)
	}
}

// TestCodesOfMany: all come ahead of the run, so no more than may be to come at once.
func TestCodesOfMany(t *testing.T) {
	var l []api.Event
	for i := range 300 {
		l = append(l, api.Event{At: 9 * i, Kind: api.EventRelease})
	}
	r, _, e := Play(config(t, small), l, 9*300)
	if e != api.OK || len(r.Codes) != 300 || len(r.Reports) != 256 {
		t.Fatal(e, len(r.Codes), len(r.Reports))
	}
	for i, code := range r.Codes {
		if want := i >= 256; code != api.OK != want || want && code != api.ErrFull {
			t.Error(i, code)
		}
	}
}

// TestPlayOfWrongs: the configuration's error is told ahead of the tick's.
func TestPlayOfWrongs(t *testing.T) {
	good := config(t, small)
	l := []api.Event{{Kind: api.EventRelease}}
	for _, until := range []int{-1, math.MinInt, 1<<24 + 1, math.MaxInt, 999999999} {
		r, k, e := Play(good, l, until)
		refused(t, r, k, e, api.ErrRange)
	}
	for _, until := range []int{-1, 0, 5, math.MaxInt} {
		for want, spoil := range map[api.Errno]func(*api.Config){
			api.ErrRange: func(c *api.Config) { c.Machine.Hit = 0 },
			api.ErrArg:   func(c *api.Config) { c.Tasks = nil },
			api.ErrMany:  func(c *api.Config) { c.Tasks = make([]api.Task, 9) },
			api.ErrTwice: func(c *api.Config) { c.Tasks = append(slices.Clone(c.Tasks), c.Tasks[0]) },
		} {
			bad := good
			spoil(&bad)
			r, k, e := Play(bad, l, until)
			refused(t, r, k, e, want)
		}
		r, k, e := Play(api.Config{}, nil, until)
		refused(t, r, k, e, api.ErrRange)
	}
}

func TestEdgesOfTheTick(t *testing.T) {
	c := config(t, small)
	l := []api.Event{{Kind: api.EventRelease}, {At: 1 << 24, Kind: api.EventRelease}}
	for until, reports := range map[int]int{0: 0, 1: 1, 5: 1, 1 << 24: 1} {
		r, k, e := Play(c, l, until)
		if e != api.OK || r.Now != until || k.Now() != until || len(r.Reports) != reports {
			t.Errorf("until %d: %+v, %d", until, r, e)
		}
	}
}

// TestAgainstPlain holds runs against those that are made by hand.
func TestAgainstPlain(t *testing.T) {
	d := &drawn{1}
	flagged := 0
	for range 400 {
		c := config(t, []string{small, large, large}[d.upTo(2)])
		l, until := d.events(d.upTo(9)), d.upTo(250)
		before := slices.Clone(l)
		want, wantKernel := plain(t, c, l, until)
		for range 2 { // P22.2
			r, k, e := Play(c, l, until)
			if e != api.OK || !same(r, want) || !reflect.DeepEqual(k, wantKernel) {
				t.Fatalf("%+v, %d, want %+v", r, e, want)
			}
		}
		if !slices.Equal(l, before) {
			t.Fatal("what was handed in is changed")
		}
		if want.Flagged {
			flagged++
		}
	}
	if flagged < 50 || flagged > 350 {
		t.Error("the draws tell little:", flagged)
	}
}

// TestMemory: neither what is handed in, nor another answer, nor the kernel sees what becomes of an answer.
func TestMemory(t *testing.T) {
	c, l := config(t, large), []api.Event{{Kind: api.EventRelease}, {At: 2, Kind: api.EventRaise}}
	r, k, _ := Play(c, l, 15)
	kept, _, _ := Play(c, l, 15)
	spoil(&r)
	if !conf.Same(c, config(t, large)) || !same(kept, again(t, c, l)) || !slices.Equal(k.Trace(), kept.Trace) || !slices.Equal(k.Reports(), kept.Reports) {
		t.Error("an answer shares memory")
	}
	whole, _ := plain(t, config(t, large), l, 60)
	spoilConfig(&c)
	k.Run(60)
	if !conf.Same(kept.Config, config(t, large)) || !slices.Equal(k.Trace(), whole.Trace) {
		t.Error("what was handed in is kept")
	}
}

func again(t *testing.T, c api.Config, l []api.Event) Run {
	t.Helper()
	r, _, e := Play(c, l, 15)
	if e != api.OK {
		t.Fatal(e)
	}
	return r
}

func spoil(r *Run) {
	spoilConfig(&r.Config)
	for i := range r.Trace {
		r.Trace[i] = api.Record{}
	}
	for i := range r.Reports {
		r.Reports[i] = api.Report{}
	}
	for i := range r.Codes {
		r.Codes[i] = 9
	}
}

func spoilConfig(c *api.Config) {
	for _, l := range [][]int{c.Mailboxes, c.Counts, c.Ceilings, c.Lines} {
		for i := range l {
			l[i] = 77
		}
	}
	for i := range c.Tasks {
		for j := range c.Tasks[i].Program {
			c.Tasks[i].Program[j] = api.Op{Kind: 77}
		}
		c.Tasks[i] = api.Task{}
	}
}

func TestText(t *testing.T) {
	l, until, _ := script.Read(events)
	want, _ := plain(t, config(t, large), l, until)
	for range 2 {
		r, k, e := Text(large, events)
		if e != api.OK || !same(r, want) || k.Now() != 200 {
			t.Fatalf("%+v, %d", r, e)
		}
	}
	if len(want.Reports) < 8 || !want.Flagged || want.Now != 200 {
		t.Errorf("%+v", want)
	}
	r, _, e := Text(small, "until 0\n")
	if e != api.OK || !same(r, Run{Config: config(t, small)}) {
		t.Errorf("%+v, %d", r, e)
	}
}

// TestTextOfWrongs: the configuration's error first, then the script's, then the tick's.
func TestTextOfWrongs(t *testing.T) {
	many := ""
	for range 257 {
		many += "0 release 0\n"
	}
	for _, row := range []struct {
		config, events string
		want           api.Errno
	}{
		{"", "until 5\n", api.ErrForm},
		{"", many + "until 5\n", api.ErrForm},
		{"machine 0 2 1 9\ntask 1 1 9 9 0 0 compute 5\n", "until 5\n", api.ErrRange},
		{"machine 0 2 1 9\ntask 1 1 9 9 0 0 compute 5\n", "", api.ErrRange},
		{small + "task 1 1 9 9 0 0 compute 5\n", many, api.ErrTwice},
		{small + "task 1 1 9 9 0 0 compute 5\n", "until 999999999\n", api.ErrTwice},
		{small, "", api.ErrForm},
		{small, "until 5", api.ErrForm},
		{small, many, api.ErrForm},
		{small, many + "until 5\n", api.ErrMany},
		{small, many + "until 999999999\n", api.ErrMany},
		{small, "until 999999999\n", api.ErrRange},
		{small, "0 release 0\nuntil 16777217\n", api.ErrRange},
	} {
		r, k, e := Text(row.config, row.events)
		refused(t, r, k, e, row.want)
	}
	r, _, e := Text(small, "5 release 3\n5 raise 0\nuntil 16777216\n")
	if e != api.OK || !slices.Equal(r.Codes, []api.Errno{api.ErrNone, api.ErrNone}) {
		t.Errorf("%+v, %d", r, e)
	}
}

// reports are of these ends, the one at fault with a fault.
func reports(fault int, ends ...int) []api.Report {
	var l []api.Report
	for i, end := range ends {
		l = append(l, api.Report{Job: i, Release: 5, Start: 5, End: end, Fault: i == fault})
	}
	return l
}

func TestDoneAndKept(t *testing.T) {
	l := reports(2, 9, -1, 3, 0, 10, 11, math.MinInt, math.MaxInt, 9)
	for _, row := range []struct {
		flagged    bool
		at         int
		done, kept []int
	}{
		{false, 0, []int{0, 3, 4, 5, 7, 8}, []int{0, 3, 4, 5, 7, 8}},
		{false, 10, []int{0, 3, 4, 5, 7, 8}, []int{0, 3, 4, 5, 7, 8}},
		{false, -5, []int{0, 3, 4, 5, 7, 8}, []int{0, 3, 4, 5, 7, 8}},
		{true, 10, []int{0, 3, 4, 5, 7, 8}, []int{0, 3, 4, 8}},
		{true, 9, []int{0, 3, 4, 5, 7, 8}, []int{0, 3, 8}},
		{true, 8, []int{0, 3, 4, 5, 7, 8}, []int{3}},
		{true, 0, []int{0, 3, 4, 5, 7, 8}, []int{3}},
		{true, -1, []int{0, 3, 4, 5, 7, 8}, nil},
		{true, math.MinInt, []int{0, 3, 4, 5, 7, 8}, nil},
		{true, math.MaxInt, []int{0, 3, 4, 5, 7, 8}, []int{0, 3, 4, 5, 7, 8}},
	} {
		r := Run{Reports: slices.Clone(l), Flag: monitor.Flag{At: row.at, Task: 3}, Flagged: row.flagged}
		for range 2 {
			done, kept := Done(r), Kept(r)
			if !slices.Equal(done, row.done) || !slices.Equal(kept, row.kept) {
				t.Errorf("flag %t at %d: %v, %v", row.flagged, row.at, done, kept)
			}
			for _, places := range [][]int{done, kept} { // an answer is the asker's own
				for i := range places {
					places[i] = -7
				}
			}
		}
		if !slices.Equal(r.Reports, l) {
			t.Error("what was handed in is changed")
		}
	}
	if Done(Run{}) != nil || Kept(Run{}) != nil || Kept(Run{Flagged: true}) != nil {
		t.Error("jobs that there aren't")
	}
}

// TestKeptOfRuns: a job that ended in the flag's tick is kept, one that ended a tick later isn't; jobs that failed, or aren't done, are neither.
func TestKeptOfRuns(t *testing.T) {
	for until, row := range map[int][2][]int{
		100: {{0, 1}, {0}},
		9:   {{0}, {0}},
		8:   {{0}, {0}},
		4:   {nil, nil},
	} {
		r, _, _ := Play(config(t, small), []api.Event{{Kind: api.EventRelease}, {At: 5, Kind: api.EventRelease}}, until)
		if got := Done(r); !slices.Equal(got, row[0]) {
			t.Errorf("until %d: %v are done", until, got)
		}
		if got := Kept(r); !slices.Equal(got, row[1]) {
			t.Errorf("until %d: %v are kept", until, got)
		}
	}
	r, _, _ := Text(large, events)
	for i, p := range r.Reports {
		if slices.Contains(Done(r), i) != (p.End >= 0 && p.Task != 2) {
			t.Errorf("%+v", p)
		}
	}
}
