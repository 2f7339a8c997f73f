package frames

import (
	"math"
	"slices"
	"testing"

	"signalbox/api"
)

// model is a stack as plain as can be: whose frames stand, their sizes, and all depths so far.
type model struct {
	who, size []int
	depths    []int
}

func total(l []int) int {
	sum := 0
	for _, n := range l {
		sum += n
	}
	return sum
}

func (m *model) depth() int { return total(m.size) }

func (m *model) peak() int { return slices.Max(append([]int{0}, m.depths...)) }

func (m *model) frame(i int) Frame {
	return Frame{Who: m.who[i], Base: total(m.size[:i]), Size: m.size[i]}
}

func (m *model) all() []Frame {
	var l []Frame
	for i := range m.who {
		l = append(l, m.frame(i))
	}
	return l
}

func (m *model) top() (Frame, bool) {
	if len(m.who) == 0 {
		return Frame{}, false
	}
	return m.frame(len(m.who) - 1), true
}

func (m *model) push(who, size int) (int, api.Errno) {
	if size < 0 || size > 4096 {
		return 0, api.ErrRange
	}
	if len(m.who) == 256 {
		return 0, api.ErrFull
	}
	base := m.depth()
	m.who, m.size = append(m.who, who), append(m.size, size)
	m.depths = append(m.depths, m.depth())
	return base, api.OK
}

func (m *model) pop(who int) api.Errno {
	last := len(m.who) - 1
	if last < 0 {
		return api.ErrEmpty
	}
	if m.who[last] != who {
		return api.ErrNest
	}
	m.who, m.size = m.who[:last], m.size[:last]
	return api.OK
}

// compare asks a stack all that leaves it as it is.
func compare(t *testing.T, s *Stack, m *model) {
	t.Helper()
	if s.Depth() != m.depth() || s.Peak() != m.peak() {
		t.Fatalf("Depth %d, Peak %d, want %d, %d", s.Depth(), s.Peak(), m.depth(), m.peak())
	}
	if got, want := s.All(), m.all(); !slices.Equal(got, want) {
		t.Fatalf("All %v, want %v", got, want)
	}
	got, ok := s.Top()
	if want, wantOk := m.top(); got != want || ok != wantOk {
		t.Fatalf("Top %v, %t, want %v, %t", got, ok, want, wantOk)
	}
	apart(t, s.All())
}

// apart asks that no two frames overlap, and that none is below 0.
func apart(t *testing.T, l []Frame) {
	t.Helper()
	for i, a := range l {
		if a.Base < 0 || a.Size < 0 {
			t.Fatalf("%v", a)
		}
		for _, b := range l[i+1:] {
			if a.Base < b.Base+b.Size && b.Base < a.Base+a.Size {
				t.Fatalf("%v overlaps %v", a, b)
			}
		}
	}
}

// push and pop make a call, and hold its answer and the whole stack against the model's.
func push(t *testing.T, s *Stack, m *model, who, size int) {
	t.Helper()
	got, e := s.Push(who, size)
	if want, wantError := m.push(who, size); got != want || e != wantError {
		t.Fatalf("Push(%d, %d): %d, %d, want %d, %d", who, size, got, e, want, wantError)
	}
	compare(t, s, m)
}

func pop(t *testing.T, s *Stack, m *model, who int) {
	t.Helper()
	if got, want := s.Pop(who), m.pop(who); got != want {
		t.Fatalf("Pop(%d): %d, want %d", who, got, want)
	}
	compare(t, s, m)
}

func TestExample(t *testing.T) {
	s := New()
	if base, e := s.Push(1, 5); base != 0 || e != api.OK {
		t.Error(base, e)
	}
	if base, e := s.Push(2, 3); base != 5 || e != api.OK {
		t.Error(base, e)
	}
	if s.Depth() != 8 || s.Peak() != 8 {
		t.Error(s.Depth(), s.Peak())
	}
}

func TestPeakStays(t *testing.T) {
	s, m := New(), &model{}
	push(t, s, m, 1, 10)
	push(t, s, m, 2, 5)
	pop(t, s, m, 2)
	push(t, s, m, 3, 4)
	if s.Peak() != 15 || s.Depth() != 14 {
		t.Error(s.Peak(), s.Depth())
	}
	pop(t, s, m, 3)
	pop(t, s, m, 1)
	if s.Peak() != 15 || s.Depth() != 0 {
		t.Error(s.Peak(), s.Depth())
	}
	push(t, s, m, 1, 16)
	if s.Peak() != 16 {
		t.Error(s.Peak())
	}
}

func TestSizes(t *testing.T) {
	for _, size := range []int{0, 1, 4095, 4096, 4097, 4098, -1, -2, math.MinInt, 1 << 32, -1 << 32, 1<<32 + 1, math.MaxInt} {
		s, m := New(), &model{}
		push(t, s, m, 1, size)
		push(t, s, m, 2, 7)
		push(t, s, m, 3, size)
		pop(t, s, m, 3)
		pop(t, s, m, 2)
	}
}

// TestAnybody: a frame may be of any number, and of one that has some already.
func TestAnybody(t *testing.T) {
	s, m := New(), &model{}
	for _, who := range []int{0, 0, -1, 7, math.MaxInt, math.MinInt, 7, 1 << 32} {
		push(t, s, m, who, 3)
	}
	for _, who := range []int{1 << 32, 7, math.MinInt, math.MaxInt, 7, -1, 0, 0} {
		pop(t, s, m, who)
	}
	compare(t, s, &model{depths: []int{24}})
}

func TestSomebodyElses(t *testing.T) {
	s, m := New(), &model{}
	for _, who := range []int{0, 1, -1, math.MinInt} {
		pop(t, s, m, who) // there is none
	}
	push(t, s, m, 1, 5)
	push(t, s, m, 2, 0)
	for _, who := range []int{1, 0, -2, 3, 2 + 1<<32, math.MaxInt, math.MinInt} {
		pop(t, s, m, who)
	}
	if len(s.All()) != 2 {
		t.Error(s.All())
	}
	pop(t, s, m, 2)
	pop(t, s, m, 2)
	pop(t, s, m, 1)
	pop(t, s, m, 1)
}

func TestFull(t *testing.T) {
	for _, size := range []int{0, 1, 4096} {
		s, m := New(), &model{}
		for i := range api.MaxEvents {
			push(t, s, m, i%5, size)
		}
		push(t, s, m, 1, size)
		push(t, s, m, 1, 0)
		push(t, s, m, 1, -1) // this is asked first
		push(t, s, m, 1, 4097)
		if len(s.All()) != 256 || s.Depth() != 256*size {
			t.Error(len(s.All()), s.Depth())
		}
		pop(t, s, m, 0)
		push(t, s, m, 9, size)
		push(t, s, m, 9, size)
	}
}

func TestNothingIsShared(t *testing.T) {
	s, m := New(), &model{}
	push(t, s, m, 1, 5)
	push(t, s, m, 2, 3)
	all := s.All()
	all[0], all[1] = Frame{Who: 9, Base: 9, Size: 9}, Frame{}
	_ = append(all[:1], Frame{Who: 8})
	compare(t, s, m)

	all = s.All()
	pop(t, s, m, 2)
	push(t, s, m, 3, 7)
	if want := []Frame{{1, 0, 5}, {2, 5, 3}}; !slices.Equal(all, want) {
		t.Error(all)
	}
}

func TestStacksStandForThemselves(t *testing.T) {
	s, m := New(), &model{}
	push(t, s, m, 1, 5)
	other, n := New(), &model{}
	compare(t, other, n)
	push(t, other, n, 2, 7)
	compare(t, s, m)
	pop(t, s, m, 1)
	compare(t, other, n)
}

func TestCallsInAnyOrder(t *testing.T) {
	seed := uint32(15)
	draw := func(n int) int {
		seed = seed*1664525 + 1013904223
		return int(seed>>8) % n
	}
	for range 100 {
		s, m := New(), &model{}
		for range 100 {
			if draw(5) < 3 {
				push(t, s, m, draw(3), draw(10)-1)
			} else {
				pop(t, s, m, draw(3))
			}
		}
	}
}

func TestNilStack(t *testing.T) {
	var s *Stack
	for _, n := range []int{0, 1, -1, 5000, math.MinInt, math.MaxInt} {
		if base, e := s.Push(n, n); base != 0 || e != api.ErrArg {
			t.Errorf("Push of %d: %d, %d", n, base, e)
		}
		if e := s.Pop(n); e != api.ErrEmpty {
			t.Errorf("Pop of %d: %d", n, e)
		}
	}
	compare(t, s, &model{})
}

// TestStackThatNewDidntMake: it is as an empty one.
func TestStackThatNewDidntMake(t *testing.T) {
	s, m := &Stack{}, &model{}
	compare(t, s, m)
	pop(t, s, m, 0)
	push(t, s, m, 0, 5)
	push(t, s, m, 1, 3)
	pop(t, s, m, 1)
}
