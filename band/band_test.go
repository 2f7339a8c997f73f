package band

import (
	"math"
	"slices"
	"testing"

	"signalbox/api"
)

// outside are numbers that no set has.
func outside() []int {
	return []int{-1, -2, -63, -64, -65, math.MinInt, math.MinInt + 1, 65, 66, 127, 128, 129, 1 << 32, math.MaxInt - 1, math.MaxInt}
}

// asked are numbers of which a set is asked: all that it may have, and others.
func asked() []int {
	l := outside()
	for n := 0; n <= api.MaxLevel; n++ {
		l = append(l, n)
	}
	return l
}

// model is a set as plain as can be.
type model map[int]bool

func (m model) rising() []int {
	var l []int
	for n := 0; n <= api.MaxLevel; n++ {
		if m[n] {
			l = append(l, n)
		}
	}
	return l
}

// compare asks a set all that can be asked of it.
func compare(t *testing.T, s *Set, m model) {
	t.Helper()
	l := m.rising()
	if s.Len() != len(l) {
		t.Fatalf("%v: Len %d", l, s.Len())
	}
	top := -1
	if len(l) > 0 {
		top = l[len(l)-1]
	}
	if s.Top() != top {
		t.Fatalf("%v: Top %d", l, s.Top())
	}
	for _, n := range asked() {
		if s.Has(n) != m[n] {
			t.Fatalf("%v: Has(%d) is %v", l, n, s.Has(n))
		}
		next := -1
		var above []int
		for _, k := range slices.Backward(l) {
			if k > n {
				next = k
				above = append(above, k)
			}
		}
		if s.Next(n) != next {
			t.Fatalf("%v: Next(%d) is %d", l, n, s.Next(n))
		}
		if !slices.Equal(s.Above(n), above) {
			t.Fatalf("%v: Above(%d) is %v", l, n, s.Above(n))
		}
	}
}

func TestExample(t *testing.T) {
	s := New(3, 5)
	if s.Top() != 5 || s.Len() != 2 || !s.Has(3) || s.Has(4) || s.Next(3) != 5 || !slices.Equal(s.Above(-1), []int{5, 3}) {
		t.Error(s.Above(-1))
	}
}

func TestEachPriorityAlone(t *testing.T) {
	for n := 0; n <= api.MaxLevel; n++ {
		s := New(n)
		compare(t, s, model{n: true})
		if s.Put(n) || !s.Drop(n) || s.Drop(n) {
			t.Errorf("priority %d", n)
		}
		compare(t, s, model{})
		if !s.Put(n) || s.Put(n) {
			t.Errorf("priority %d, again", n)
		}
		compare(t, s, model{n: true})
	}
}

func TestEachPair(t *testing.T) {
	for a := 0; a <= api.MaxLevel; a++ {
		for b := 0; b < a; b++ {
			compare(t, New(a, b), model{a: true, b: true})
		}
	}
}

func TestOthersArePassedOver(t *testing.T) {
	s := New(outside()...)
	compare(t, s, model{})
	s = New(append(outside(), 7, 64, 0, 7)...)
	m := model{0: true, 7: true, 64: true}
	compare(t, s, m)
	for _, n := range outside() {
		if s.Put(n) || s.Drop(n) {
			t.Errorf("%d changed the set", n)
		}
		compare(t, s, m)
	}
}

func TestPutsAndDropsInAnyOrder(t *testing.T) {
	s, m := New(), model{}
	seed := uint32(1)
	for range 4000 {
		seed = seed*1664525 + 1013904223
		n := int(seed>>16)%70 - 2
		may := n >= 0 && n <= api.MaxLevel
		if seed>>8&1 == 0 {
			if got, want := s.Put(n), may && !m[n]; got != want {
				t.Fatalf("%v: Put(%d) is %v", m.rising(), n, got)
			}
			if may {
				m[n] = true
			}
		} else {
			if got, want := s.Drop(n), m[n]; got != want {
				t.Fatalf("%v: Drop(%d) is %v", m.rising(), n, got)
			}
			delete(m, n)
		}
		if seed>>20&15 == 0 {
			compare(t, s, m)
		}
	}
	for n := 0; n <= api.MaxLevel; n++ {
		s.Put(n)
		m[n] = true
	}
	compare(t, s, m)
	if s.Len() != api.MaxLevel+1 {
		t.Errorf("a full set has %d", s.Len())
	}
}

func TestNilSet(t *testing.T) {
	var s *Set
	compare(t, s, model{})
	for _, n := range asked() {
		if s.Put(n) || s.Drop(n) || s.Has(n) {
			t.Errorf("%d changed a nil set", n)
		}
	}
	compare(t, s, model{})
}

func TestEmptySets(t *testing.T) {
	compare(t, New(), model{})
	compare(t, New([]int{}...), model{})
	compare(t, &Set{}, model{})
}

func TestNothingIsShared(t *testing.T) {
	l := []int{9, 64, -1, 2}
	s := New(l...)
	if !slices.Equal(l, []int{9, 64, -1, 2}) {
		t.Errorf("New changed what was handed in: %v", l)
	}
	l[0] = 33
	a := s.Above(-1)
	b := s.Above(-1)
	a[0] = 50
	if !slices.Equal(b, []int{64, 9, 2}) {
		t.Errorf("two answers share memory: %v", b)
	}
	compare(t, s, model{2: true, 9: true, 64: true})
	other := New(2, 9)
	other.Put(40)
	compare(t, s, model{2: true, 9: true, 64: true})
}
