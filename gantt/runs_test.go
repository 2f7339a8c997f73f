package gantt

import (
	"slices"
	"testing"

	"signalbox/api"
	"signalbox/kernel"
	"signalbox/play"
)

// anyConfig is a configuration that may be, whose tasks displace and withhold each other, and may fail.
func anyConfig(draw func(n int) int) api.Config {
	hit := 1 + draw(3)
	c := api.Config{Machine: api.Machine{Sets: 1 + draw(3), Ways: 1 + draw(2), Hit: hit, Miss: hit + draw(5)}, Groups: 1, Ceilings: []int{14}}
	for priority := range 1 + draw(5) {
		c.Tasks = append(c.Tasks, api.Task{
			Priority: 2 * priority, Threshold: 2*priority + draw(3)*draw(3), Period: 40, Deadline: 40,
			Frame: draw(6), Float: draw(2) * draw(5), Program: anyProgram(draw),
		})
		c.Lines = append(c.Lines, priority)
	}
	return c
}

// anyProgram is one of parts that nest each by itself.
func anyProgram(draw func(n int) int) []api.Op {
	l := []api.Op{{Kind: api.OpCompute, A: 1 + draw(4)}}
	inner := func() api.Op {
		return []api.Op{{Kind: api.OpCompute, A: 1 + draw(6)}, {Kind: api.OpAccess, A: draw(6)}, {Kind: api.OpTest, B: 1}}[draw(3)]
	}
	for range draw(6) {
		switch draw(6) {
		case 0:
			l = append(l, api.Op{Kind: api.OpEnter}, inner(), api.Op{Kind: api.OpExit})
		case 1:
			l = append(l, api.Op{Kind: api.OpLock}, inner(), api.Op{Kind: api.OpUnlock})
		case 2:
			l = append(l, api.Op{Kind: api.OpPush, A: 1 + draw(2)})
		default:
			l = append(l, inner())
		}
	}
	return l
}

// anyEvents are releases, timers, and what lines do, close enough that jobs displace each other, and now and then are lost.
func anyEvents(draw func(n int) int, c api.Config, until int) []api.Event {
	var l []api.Event
	for range draw(2 + until/8) {
		l = append(l, api.Event{At: draw(until), Kind: 1 + draw(5), A: draw(len(c.Tasks)), B: 5 + draw(40), C: 1 + draw(5)})
	}
	return l
}

// owners is whose each tick of a run is, as a kernel that goes tick by tick shows it: that of the job that ended with it, or of the top behind it.
func owners(t *testing.T, c api.Config, l []api.Event, until int) []Piece {
	t.Helper()
	k, e := kernel.New(c)
	if e != api.OK {
		t.Fatal(e)
	}
	for _, event := range l {
		k.Event(event)
	}
	var ticks []Piece
	for tick := range until {
		before := len(k.Trace())
		k.Run(tick + 1)
		ticks = append(ticks, owner(k, before, tick))
	}
	return ticks
}

// owner is whose the last tick is.
func owner(k *kernel.Kernel, before, tick int) Piece {
	for _, r := range k.Trace()[before:] {
		if r.At == tick+1 && (r.Kind == api.RecDone || r.Kind == api.RecFault) {
			return Piece{tick, tick + 1, r.Task, r.Job}
		}
	}
	all := k.Frames()
	if len(all) == 0 {
		return Piece{tick, tick + 1, -1, 0}
	}
	top := k.Reports()[all[len(all)-1].Who]
	return Piece{tick, tick + 1, top.Task, top.Job}
}

// plainly are owners in pieces.
func plainly(ticks []Piece) []Piece {
	var l []Piece
	for i, p := range ticks {
		if i > 0 && p.Task == ticks[i-1].Task && p.Job == ticks[i-1].Job {
			l[len(l)-1].To = p.To
			continue
		}
		l = append(l, p)
	}
	return l
}

// TestOfRuns holds a run's pieces, up to each tick, against whose each tick is.
func TestOfRuns(t *testing.T) {
	draw := drawing(342)
	pieces, displaced, faults := 0, 0, 0
	for range 900 {
		c, until := anyConfig(draw), 1+draw(160)
		l := anyEvents(draw, c, until)
		r, _, e := play.Play(c, l, until)
		if e != api.OK {
			t.Fatalf("%+v: %d", c, e)
		}
		ticks := owners(t, c, l, until)
		for upto := range until + 1 {
			if got, want := Of(r.Trace, upto), plainly(ticks[:upto]); !slices.Equal(got, want) {
				t.Fatalf("up to %d: %v, want %v", upto, got, want)
			}
		}
		got := Of(r.Trace, until)
		seamless(t, got, until)
		shared(t, c, got, until)
		pieces += len(got)
		for _, p := range r.Reports {
			displaced += p.Displaced
			if p.Fault {
				faults++
			}
		}
	}
	if pieces < 4000 || displaced < 200 || faults < 200 {
		t.Errorf("%d pieces, %d times displaced, %d faults", pieces, displaced, faults)
	}
}

// shared: each tick of a run is a task's, or nobody's.
func shared(t *testing.T, c api.Config, l []Piece, until int) {
	t.Helper()
	sum := Idle(l)
	for task := range c.Tasks {
		sum += Busy(l, task)
	}
	if sum != until {
		t.Fatalf("%v: %d ticks of %d", l, sum, until)
	}
	for tick := range until {
		if p, ok := At(l, tick); !ok || tick < p.From || tick >= p.To {
			t.Fatalf("%v at %d: %v, %v", l, tick, p, ok)
		}
	}
}

// took is how long a job's operations took: all of them, or, if it failed, those ahead of the push that overran its frame, and a tick of that.
func took(c api.Config, r api.Report) int {
	sum, pushed := r.Hits*c.Machine.Hit+r.Misses*c.Machine.Miss, 0
	for _, o := range c.Tasks[r.Task].Program {
		switch o.Kind {
		case api.OpCompute:
			sum += o.A
		case api.OpAccess:
		case api.OpPush:
			pushed += o.A
			sum++
		default:
			sum++
		}
		if pushed > c.Tasks[r.Task].Frame {
			break
		}
	}
	return sum
}

// TestJobsRanForTheirOperations: what a job that is over has of the ticks is what its operations took, however often it was displaced.
func TestJobsRanForTheirOperations(t *testing.T) {
	draw := drawing(343)
	done, failed, often := 0, 0, 0
	for range 1500 {
		c, until := anyConfig(draw), 1+draw(400)
		r, _, e := play.Play(c, anyEvents(draw, c, until), until)
		if e != api.OK {
			t.Fatalf("%+v: %d", c, e)
		}
		ran := map[[2]int]int{}
		for _, p := range Of(r.Trace, until) {
			ran[[2]int{p.Task, p.Job}] += p.To - p.From
		}
		for _, p := range r.Reports {
			got := ran[[2]int{p.Task, p.Job}]
			if p.Start < 0 && got != 0 || p.End >= 0 && got != took(c, p) {
				t.Fatalf("%+v ran for %d, its operations took %d", p, got, took(c, p))
			}
			switch {
			case p.End >= 0 && p.Fault:
				failed++
			case p.End >= 0 && p.Displaced > 0:
				often++
			case p.End >= 0:
				done++
			}
		}
	}
	if done < 5000 || failed < 500 || often < 500 {
		t.Errorf("%d are done, %d of them displaced, %d failed", done+often, often, failed)
	}
}
