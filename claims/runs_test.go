package claims

import (
	"math"
	"math/big"
	"slices"
	"testing"

	"signalbox/admit"
	"signalbox/api"
	"signalbox/conf"
	"signalbox/cost"
	"signalbox/kernel"
	"signalbox/play"
)

// drawer draws numbers, always the same ones of a seed.
type drawer struct{ seed uint64 }

// below is a number from 0 on, below n.
func (d *drawer) below(n int) int {
	d.seed = d.seed*6364136223846793005 + 1442695040888963407
	return int(d.seed>>33) % n
}

// once asks for something that is so once in n times.
func (d *drawer) once(n int) bool { return d.below(n) == 0 }

func (d *drawer) pick(l ...int) int { return l[d.below(len(l))] }

// config is one that may be, and that is admitted now and then. There isn't more to do than there is time, so that all windows end soon.
func (d *drawer) config() api.Config {
	for {
		c := d.any()
		if used, all := admit.Used(c); used <= all {
			return c
		}
	}
}

// any is one that may be.
func (d *drawer) any() api.Config {
	hit := 1 + d.below(2)
	c := api.Config{Machine: api.Machine{Sets: d.pick(1, 2, 4), Ways: d.pick(1, 1, 2, 4), Hit: hit, Miss: hit + d.below(6)}}
	for range d.below(4) {
		c.Ceilings = append(c.Ceilings, d.below(13))
	}
	s, count := style{ceilings: c.Ceilings, longest: 1 + d.below(12), blocks: d.pick(2, 3, 8)}, d.pick(1, 2, 2, 3, 4, 5)
	for len(c.Tasks) < count {
		p := d.below(12)
		if slices.ContainsFunc(c.Tasks, func(t api.Task) bool { return t.Priority == p }) {
			continue
		}
		c.Tasks = append(c.Tasks, api.Task{
			Priority: p, Threshold: p + d.pick(0, 0, 0, 0, 1, 2, 5, 51),
			Frame: d.below(8), Float: d.pick(0, 0, 0, 1, 3, 9),
			Program: d.program(s, p),
		})
	}
	d.times(c)
	for range d.below(4) {
		c.Lines = append(c.Lines, d.below(len(c.Tasks)))
	}
	return c
}

// times gives tasks periods in which they, and some of the others, may be done.
func (d *drawer) times(c api.Config) {
	sum := 0
	for _, t := range c.Tasks {
		sum += cost.Worst(t.Program, c.Machine)
	}
	room := sum * d.pick(1, 1, 4) / 2
	for i, t := range c.Tasks {
		period := d.pick(cost.Worst(t.Program, c.Machine), sum) + d.below(1+room)
		c.Tasks[i].Period, c.Tasks[i].Deadline = period, period-d.below(1+period/8)
	}
}

// style is what programs of a configuration have in common: the fewer blocks, the more often one is loaded again.
type style struct {
	ceilings        []int
	longest, blocks int
}

// program is one in which regions and locks nest, and are closed at the end: the lower the priority, the longer it may be. It may push more than there is room for.
func (d *drawer) program(s style, priority int) []api.Op {
	var l, ends []api.Op
	locked := 0
	for range 1 + d.below(1+s.longest*(12-priority)/3) {
		switch d.below(14) {
		case 0:
			l, ends = append(l, api.Op{Kind: api.OpEnter}), append(ends, api.Op{Kind: api.OpExit})
		case 1, 2:
			if locked < len(s.ceilings) && s.ceilings[locked] >= priority {
				l, ends = append(l, api.Op{Kind: api.OpLock, A: locked}), append(ends, api.Op{Kind: api.OpUnlock, A: locked})
				locked++
			}
		case 3, 4:
			if last := len(ends) - 1; last >= 0 {
				if ends[last].Kind == api.OpUnlock {
					locked--
				}
				l, ends = append(l, ends[last]), ends[:last]
			}
		case 5:
			l = append(l, api.Op{Kind: api.OpCompute, A: 1 + d.below(6)})
		case 6:
			if d.once(3) {
				l = append(l, api.Op{Kind: api.OpPush, A: 1 + d.below(3)})
			}
		default:
			l = append(l, api.Op{Kind: api.OpAccess, A: d.below(s.blocks)})
		}
	}
	slices.Reverse(ends)
	if l = append(l, ends...); len(l) == 0 {
		l = []api.Op{{Kind: api.OpCompute, A: 1}}
	}
	return l
}

// events let each task come as often as may be, or somewhat less, by releases, a line or a timer; and now and then any events besides, too soon, of no kind, of masked lines.
func (d *drawer) events(c api.Config, until int) []api.Event {
	var l []api.Event
	together := d.below(until)
	for i, t := range c.Tasks {
		at := max(0, d.pick(0, together, together-d.below(12), together-d.below(30)))
		line, spare := slices.Index(c.Lines, i), d.pick(0, 0, 2, 30)
		e := api.Event{Kind: api.EventRelease, A: i}
		switch {
		case d.once(4):
			l = append(l, api.Event{At: at, Kind: api.EventTimer, A: i, B: t.Period + spare, C: 1 + d.below(40)})
			continue
		case line >= 0 && d.once(2):
			e = api.Event{Kind: api.EventRaise, A: line}
		}
		for e.At = at; e.At < until && len(l) < api.MaxEvents; e.At += t.Period + d.below(1+spare) {
			l = append(l, e)
		}
	}
	if d.once(2) {
		return l
	}
	for range d.below(9) {
		l = append(l, api.Event{At: d.below(until+9) - 4, Kind: d.below(7), A: d.below(len(c.Tasks)+2) - 1, B: d.below(9), C: d.below(20)})
	}
	return l
}

// runs are so many, of configurations that are admitted.
func runs(t *testing.T, seed uint64, count int, each func(d *drawer, r play.Run, k *kernel.Kernel, a admit.Analysis)) {
	t.Helper()
	d := &drawer{seed: seed}
	for count > 0 {
		c := d.config()
		a, e := admit.Analyse(c)
		if e == api.ErrLate {
			continue
		}
		if e != api.OK {
			t.Fatalf("%+v: %d", c, e)
		}
		until := 1 + d.below(600)
		r, k, e := play.Play(c, d.events(c, until), until)
		if e != api.OK {
			t.Fatalf("%+v: %d", c, e)
		}
		each(d, r, k, a)
		count--
	}
}

// TestAnyRun: of no configuration that is admitted, and no events, anything isn't kept.
func TestAnyRun(t *testing.T) {
	d := &drawer{seed: 17}
	admitted, late := 0, 0
	for range 6000 {
		c := d.config()
		if !admit.Admitted(c) {
			late++
			if l, e := Run(c, nil, 9); e != api.ErrLate || len(l) != 0 {
				t.Fatalf("%+v: %v, %d", c, l, e)
			}
			continue
		}
		admitted++
		for range 3 {
			until := 1 + d.below(600)
			for _, events := range [][]api.Event{d.events(c, until), Worst(c, until)} {
				if l, e := Run(c, events, until); len(l) != 0 || e != api.OK {
					text, _ := conf.Text(c)
					t.Fatalf("%v, %d, until %d:\n%s%+v", l, e, until, text, events)
				}
			}
		}
	}
	if admitted < 1000 || late < 1000 {
		t.Errorf("%d are admitted, %d late", admitted, late)
	}
}

// TestNoneIsTooGreat: runs come to what is told, and Check sees it when they do: if all that is told was one less, each kind of claim would be broken by some.
func TestNoneIsTooGreat(t *testing.T) {
	broken := map[string]int{}
	flagged, faults := 0, 0
	less := func(n uint64) uint64 { return max(n, 1) - 1 }
	runs(t, 3, 9000, func(_ *drawer, r play.Run, k *kernel.Kernel, a admit.Analysis) {
		if l := Check(r, k, a); len(l) != 0 {
			t.Fatalf("%v", l)
		}
		for i, l := range a.Lines {
			a.Lines[i] = admit.Line{Response: less(l.Response), Preempts: less(l.Preempts), Reload: less(l.Reload), Extra: less(l.Extra)}
			r.Config.Tasks[i].Float = max(r.Config.Tasks[i].Float, 1) - 1
		}
		a.Stack--
		for _, claim := range Check(r, k, a) {
			broken[claim.What]++
		}
		if r.Flagged {
			flagged++
		}
		for _, p := range r.Reports {
			if p.Fault {
				faults++
			}
		}
	})
	for what, most := range map[string]int{"late": 5000, "often": 500, "float": 500, "misses": 40, "stack": 2000, "open": 10} {
		if broken[what] < most {
			t.Errorf("only %d are %s", broken[what], what)
		}
	}
	if flagged < 1000 || faults < 1000 {
		t.Errorf("only %d are flagged, and %d jobs fail", flagged, faults)
	}
}

// number is one of any size.
func number(n int) *big.Int { return big.NewInt(int64(n)) }

func unsigned(n uint64) *big.Int { return new(big.Int).SetUint64(n) }

// beyond asks whether a number is more than some others together.
func beyond(n *big.Int, parts ...*big.Int) bool {
	sum := new(big.Int)
	for _, part := range parts {
		sum.Add(sum, part)
	}
	return n.Cmp(sum) > 0
}

// plain is what wasn't kept, asked of one report behind the other with numbers of any size.
func plain(r play.Run, k *kernel.Kernel, a admit.Analysis) []Claim {
	var l []Claim
	say := func(report int, what string, broken bool) {
		if broken {
			l = append(l, Claim{report, what})
		}
	}
	open, lost := false, false
	for i, p := range r.Reports {
		if p.Task < 0 || p.Task >= len(a.Lines) {
			continue
		}
		told := a.Lines[p.Task]
		if p.End < 0 && !beyond(unsigned(told.Response), number(r.Now), new(big.Int).Neg(number(p.Release))) {
			open = true
		}
		if p.End < 0 || p.Fault || r.Flagged && p.End > r.Flag.At {
			continue
		}
		alone, _, e := k.Alone(i)
		displaced := number(max(p.Displaced, 0))
		say(i, "late", beyond(number(p.End), number(p.Release), unsigned(told.Response)))
		say(i, "often", beyond(displaced, unsigned(told.Preempts)))
		say(i, "float", p.Withheld > r.Config.Tasks[p.Task].Float)
		say(i, "misses", e == api.OK && (beyond(number(p.Misses), number(alone), unsigned(told.Extra)) ||
			beyond(number(p.Misses), number(alone), new(big.Int).Mul(displaced, unsigned(told.Reload)))))
	}
	for _, record := range r.Trace {
		lost = lost || record.Kind == api.RecLost
	}
	say(-1, "stack", r.Peak > a.Stack)
	say(-1, "open", open && !r.Flagged)
	say(-1, "lost", lost && !r.Flagged)
	return l
}

// near is a number close to another one, now and then one at the ends of int.
func (d *drawer) near(n int) int {
	if d.once(40) {
		return d.pick(math.MinInt, math.MinInt+1, -1, 0, 1, math.MaxInt-1, math.MaxInt)
	}
	return n + d.pick(0, 0, -2, -1, 1, 2)
}

// nearly is the same of what is told.
func (d *drawer) nearly(n uint64) uint64 {
	switch {
	case d.once(40):
		return uint64(d.near(0))
	case d.once(3):
		return uint64(max(d.near(int(n)), 0))
	}
	return n
}

// spoil changes some of a run, and of what is told.
func (d *drawer) spoil(r *play.Run, a *admit.Analysis) {
	for i := range r.Reports {
		p := &r.Reports[i]
		for _, n := range []*int{&p.Release, &p.End, &p.Displaced, &p.Misses, &p.Withheld} {
			if d.once(9) {
				*n = d.near(*n)
			}
		}
		if d.once(20) {
			p.Task = d.near(p.Task)
		}
		if d.once(20) {
			p.Fault, p.End = d.once(2), d.pick(-1, p.End)
		}
	}
	for i := range a.Lines {
		l := &a.Lines[i]
		*l = admit.Line{Response: d.nearly(l.Response), Preempts: d.nearly(l.Preempts), Reload: d.nearly(l.Reload), Extra: d.nearly(l.Extra)}
	}
	if len(r.Trace) > 0 && d.once(4) {
		r.Trace[d.below(len(r.Trace))].Kind = d.pick(api.RecLost, api.RecRelease, 0)
	}
	r.Now, r.Peak, r.Flag.At = d.near(r.Now), d.near(r.Peak), d.near(r.Flag.At)
	if d.once(4) {
		r.Flagged, r.Flag.At = !r.Flagged, d.below(600)
	}
}

// TestAgainstPlain: of any run, and whatever is told, Check is what the plain way finds.
func TestAgainstPlain(t *testing.T) {
	broken := map[string]int{}
	runs(t, 31, 600, func(d *drawer, r play.Run, k *kernel.Kernel, a admit.Analysis) {
		reports, trace, lines, flag, flagged := r.Reports, r.Trace, a.Lines, r.Flag, r.Flagged
		for range 6 {
			r.Reports, r.Trace, a.Lines, r.Flag, r.Flagged = slices.Clone(reports), slices.Clone(trace), slices.Clone(lines), flag, flagged
			d.spoil(&r, &a)
			got, want := Check(r, k, a), plain(r, k, a)
			if !slices.Equal(got, want) {
				t.Fatalf("%v, want %v, of %+v, told %+v", got, want, r.Reports, a)
			}
			for _, claim := range got {
				broken[claim.What]++
			}
		}
	})
	for _, what := range []string{"late", "often", "float", "misses", "stack", "open", "lost"} {
		if broken[what] < 100 {
			t.Errorf("only %d are %s", broken[what], what)
		}
	}
}
