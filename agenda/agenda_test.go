package agenda

import (
	"math"
	"slices"
	"testing"

	"signalbox/api"
)

// model is an agenda as plain as can be: a row in which each event stands behind all that aren't later.
type model []api.Event

func (m *model) put(e api.Event) {
	i := len(*m)
	for i > 0 && (*m)[i-1].At > e.At {
		i--
	}
	*m = slices.Insert(*m, i, e)
}

func (m *model) take(at int) []api.Event {
	i := 0
	for i < len(*m) && (*m)[i].At <= at {
		i++
	}
	gone := slices.Clone((*m)[:i])
	*m = slices.Clone((*m)[i:])
	return gone
}

// compare asks an agenda all that leaves it as it is.
func compare(t *testing.T, a *Agenda, m model) {
	t.Helper()
	if a.Len() != len(m) {
		t.Fatalf("Len %d, want %d", a.Len(), len(m))
	}
	next, ok := a.Next()
	if ok != (len(m) > 0) || !ok && next != 0 || ok && next != m[0].At {
		t.Fatalf("%v: Next %d, %v", m, next, ok)
	}
}

// event is one at a tick, with a mark by which it is told from others.
func event(at, mark int) api.Event {
	return api.Event{At: at, Kind: api.EventTimer, A: mark, B: 2 * mark, C: 3 * mark}
}

// events are at these ticks, each with its place as its mark.
func events(ticks ...int) []api.Event {
	var l []api.Event
	for i, at := range ticks {
		l = append(l, event(at, i+1))
	}
	return l
}

// made is an agenda of these, the first few of them by New, and its model.
func made(l []api.Event, byNew int) (*Agenda, *model) {
	a, m := New(l[:byNew]), &model{}
	for _, e := range l[byNew:] {
		a.Put(e)
	}
	for _, e := range l {
		m.put(e)
	}
	return a, m
}

func TestExample(t *testing.T) {
	a := New(events(5, 3))
	if next, ok := a.Next(); next != 3 || !ok {
		t.Error(next, ok)
	}
}

func TestInOrder(t *testing.T) {
	l := events(5, 3, 9, 3, 0, 5, 5, -2, 9, 3, 0, math.MaxInt, math.MinInt, 5)
	want := []int{13, 8, 5, 11, 2, 4, 10, 1, 6, 7, 14, 3, 9, 12}
	for byNew := range len(l) + 1 {
		a, m := made(l, byNew)
		compare(t, a, *m)
		var marks []int
		for _, e := range a.Take(math.MaxInt) {
			if e != l[e.A-1] {
				t.Fatalf("took %v, put was %v", e, l[e.A-1])
			}
			marks = append(marks, e.A)
		}
		if !slices.Equal(marks, want) {
			t.Errorf("%d by New: in the order %v, want %v", byNew, marks, want)
		}
		compare(t, a, nil)
	}
}

func TestTake(t *testing.T) {
	l := events(7, 2, 2, 0, 7, 9, -4, 2)
	for _, at := range []int{math.MinInt, -5, -4, -3, -1, 0, 1, 2, 3, 6, 7, 8, 9, 10, math.MaxInt} {
		a, m := made(l, 3)
		if got, want := a.Take(at), m.take(at); !slices.Equal(got, want) {
			t.Errorf("Take(%d) is %v, want %v", at, got, want)
		}
		compare(t, a, *m)
		if got := a.Take(at); len(got) != 0 {
			t.Errorf("Take(%d) again is %v", at, got)
		}
		compare(t, a, *m)
		if got, want := a.Take(math.MaxInt), m.take(math.MaxInt); !slices.Equal(got, want) {
			t.Errorf("behind Take(%d) come %v, want %v", at, got, want)
		}
	}
}

func TestOfOneTickInTheOrderOfPuts(t *testing.T) {
	a, m := New(nil), &model{}
	for i := range 500 {
		e := event(4, i)
		a.Put(e)
		m.put(e)
		if i%7 == 0 {
			a.Put(event(1, -i))
			if got := a.Take(1); len(got) != 1 || got[0] != event(1, -i) {
				t.Fatal(got)
			}
		}
	}
	compare(t, a, *m)
	if got, want := a.Take(4), m.take(4); len(want) != 500 || !slices.Equal(got, want) {
		t.Errorf("%v, want %v", got, want)
	}
}

func TestLikeEventsStayMany(t *testing.T) {
	e := event(3, 1)
	a := New([]api.Event{e, e})
	a.Put(e)
	if got := a.Take(3); a.Len() != 0 || !slices.Equal(got, []api.Event{e, e, e}) {
		t.Error(got)
	}
}

func TestAnyEventIsKeptAsItIs(t *testing.T) {
	l := []api.Event{
		{},
		{At: 1, Kind: -7, A: math.MinInt, B: math.MaxInt, C: -1},
		{At: 2, Kind: api.EventKinds + 1, A: 99, B: 98, C: 97},
		{At: api.MaxTime + 5, Kind: api.EventMask, A: 1},
	}
	a, _ := made(l, 2)
	if got := a.Take(math.MaxInt); !slices.Equal(got, l) {
		t.Errorf("%v, want %v", got, l)
	}
}

func TestMoreThanMaxEvents(t *testing.T) {
	a, m := New(nil), &model{}
	for i := range 8 * api.MaxEvents {
		e := event((i*i+5*i)%193, i)
		a.Put(e)
		m.put(e)
	}
	compare(t, a, *m)
	for at := range 193 {
		if got, want := a.Take(at), m.take(at); !slices.Equal(got, want) {
			t.Fatalf("Take(%d) is %v, want %v", at, got, want)
		}
	}
	compare(t, a, nil)
}

func TestCallsInAnyOrder(t *testing.T) {
	a, m := New(nil), &model{}
	seed := uint32(11)
	draw := func(n int) int {
		seed = seed*1664525 + 1013904223
		return int(seed>>8) % n
	}
	for i := range 6000 {
		if draw(4) > 0 {
			e := event(draw(30)-3, i)
			a.Put(e)
			m.put(e)
		} else {
			at := draw(20) - 5
			if got, want := a.Take(at), m.take(at); !slices.Equal(got, want) {
				t.Fatalf("Take(%d) is %v, want %v", at, got, want)
			}
		}
		compare(t, a, *m)
	}
}

func TestNilAgenda(t *testing.T) {
	var a *Agenda
	for range 2 {
		compare(t, a, nil)
		for _, at := range []int{math.MinInt, 0, 5, math.MaxInt} {
			if got := a.Take(at); len(got) != 0 {
				t.Error(got)
			}
		}
		a.Put(event(3, 1))
		a.Put(api.Event{})
	}
}

func TestEmptyAgendas(t *testing.T) {
	for name, a := range map[string]*Agenda{"of nil": New(nil), "of none": New([]api.Event{}), "that New didn't make": {}} {
		compare(t, a, nil)
		if got := a.Take(math.MaxInt); len(got) != 0 {
			t.Errorf("%s: %v", name, got)
		}
		a.Put(event(6, 1))
		compare(t, a, model{event(6, 1)})
	}
}

func TestNothingIsShared(t *testing.T) {
	l := events(4, 1, 4, 2)
	before := slices.Clone(l)
	a, m := New(l), &model{}
	for _, e := range l {
		m.put(e)
	}
	other := New(l)
	l[0].At, l[1].At = -50, -60
	compare(t, a, *m)
	got, want := a.Take(2), m.take(2)
	if !slices.Equal(got, want) {
		t.Fatalf("%v, want %v", got, want)
	}
	got[0] = event(90, 90)
	_ = append(got[:1], event(91, 91))
	a.Put(event(3, 7))
	m.put(event(3, 7))
	if got, want := a.Take(9), m.take(9); !slices.Equal(got, want) {
		t.Errorf("%v, want %v", got, want)
	}
	compare(t, other, model{before[1], before[3], before[0], before[2]})
	l = slices.Clone(before)
	New(l).Take(9)
	if !slices.Equal(l, before) {
		t.Errorf("%v: what was handed in was %v", l, before)
	}
}
