package ceiling

import (
	"math"
	"slices"
	"testing"

	"signalbox/api"
)

// model are locks as plain as can be: of who holds some, the ceilings of these, by the locks' numbers.
type model struct {
	ceilings []int
	holds    map[int]map[int]int
}

func (m *model) has(i int) bool { return i >= 0 && i < len(m.ceilings) }

func (m *model) holder(i int) (int, bool) {
	for who, locks := range m.holds {
		if _, ok := locks[i]; ok {
			return who, true
		}
	}
	return 0, false
}

func (m *model) held(who int) []int {
	var l []int
	for i := range m.holds[who] {
		l = append(l, i)
	}
	slices.Sort(l)
	return l
}

func (m *model) level(who, base int) int {
	l := []int{base}
	for _, ceiling := range m.holds[who] {
		l = append(l, ceiling)
	}
	slices.Sort(l)
	return l[len(l)-1]
}

func (m *model) lock(i, who int) api.Errno {
	if !m.has(i) {
		return api.ErrNone
	}
	if _, ok := m.holder(i); ok {
		return api.ErrTwice
	}
	if m.holds[who] == nil {
		m.holds[who] = map[int]int{}
	}
	m.holds[who][i] = m.ceilings[i]
	return api.OK
}

func (m *model) unlock(i, who int) api.Errno {
	if !m.has(i) {
		return api.ErrNone
	}
	if _, ok := m.holds[who][i]; !ok {
		return api.ErrEmpty
	}
	delete(m.holds[who], i)
	return api.OK
}

func (m *model) free(who int) int {
	n := len(m.holds[who])
	delete(m.holds, who)
	return n
}

// made are locks of these ceilings, and their model.
func made(ceilings ...int) (*Locks, *model) {
	return New(ceilings), &model{ceilings: ceilings, holds: map[int]map[int]int{}}
}

// outside are numbers that none of so many locks has.
func outside(count int) []int {
	return []int{math.MinInt, -1 << 32, -2, -1, count, count + 1, 1 << 32, math.MaxInt}
}

// whos are some that may hold locks: any number may.
var whos = [...]int{math.MinInt, -1, 0, 1, 2, 3, 255, 1 << 32, math.MaxInt}

// bases are some levels to begin with.
var bases = [...]int{math.MinInt, -1, 0, 3, 7, 8, 63, 64, math.MaxInt}

// compare asks locks all that leaves them as they are.
func compare(t *testing.T, l *Locks, m *model) {
	t.Helper()
	if l.Len() != len(m.ceilings) {
		t.Fatalf("Len %d, want %d", l.Len(), len(m.ceilings))
	}
	for i := range m.ceilings {
		compareHolder(t, l, m, i)
	}
	for _, i := range outside(len(m.ceilings)) {
		compareHolder(t, l, m, i)
	}
	for _, who := range whos {
		if got, want := l.Held(who), m.held(who); !slices.Equal(got, want) {
			t.Fatalf("Held(%d): %v, want %v", who, got, want)
		}
		for _, base := range bases {
			if got, want := l.Level(who, base), m.level(who, base); got != want {
				t.Fatalf("Level(%d, %d): %d, want %d", who, base, got, want)
			}
		}
	}
}

func compareHolder(t *testing.T, l *Locks, m *model, i int) {
	t.Helper()
	want, wantHeld := m.holder(i)
	if who, held := l.Holder(i); who != want || held != wantHeld {
		t.Fatalf("Holder(%d): %d, %t, want %d, %t", i, who, held, want, wantHeld)
	}
}

func lockOne(t *testing.T, l *Locks, m *model, i, who int) {
	t.Helper()
	want := m.lock(i, who)
	if e := l.Lock(i, who); e != want {
		t.Fatalf("Lock(%d, %d): %d, want %d", i, who, e, want)
	}
	compare(t, l, m)
}

func unlock(t *testing.T, l *Locks, m *model, i, who int) {
	t.Helper()
	want := m.unlock(i, who)
	if e := l.Unlock(i, who); e != want {
		t.Fatalf("Unlock(%d, %d): %d, want %d", i, who, e, want)
	}
	compare(t, l, m)
}

func free(t *testing.T, l *Locks, m *model, who int) {
	t.Helper()
	want := m.free(who)
	if n := l.Free(who); n != want {
		t.Fatalf("Free(%d): %d, want %d", who, n, want)
	}
	compare(t, l, m)
}

func TestExample(t *testing.T) {
	l := New([]int{7})
	if level := l.Level(1, 3); level != 3 {
		t.Error(level)
	}
	if e := l.Lock(0, 1); e != api.OK {
		t.Error(e)
	}
	if level := l.Level(1, 3); level != 7 {
		t.Error(level)
	}
	if level := l.Level(1, 9); level != 9 {
		t.Error(level)
	}
	if level := l.Level(2, 3); level != 3 {
		t.Error(level)
	}
	if e := l.Unlock(0, 1); e != api.OK {
		t.Error(e)
	}
	if level := l.Level(1, 3); level != 3 {
		t.Error(level)
	}
}

// TestHeldTwice: a lock that is held isn't given again, not even to who holds it.
func TestHeldTwice(t *testing.T) {
	for _, holder := range whos {
		l, m := made(5)
		lockOne(t, l, m, 0, holder)
		for _, who := range whos {
			if e := l.Lock(0, who); e != api.ErrTwice {
				t.Errorf("Lock for %d, where %d holds it: %d", who, holder, e)
			}
			compare(t, l, m)
		}
		unlock(t, l, m, 0, holder)
		lockOne(t, l, m, 0, holder)
	}
}

// TestUnlockOfOthers: only who holds a lock unlocks it.
func TestUnlockOfOthers(t *testing.T) {
	for _, holder := range whos {
		l, m := made(5, 6)
		lockOne(t, l, m, 1, holder)
		for _, who := range whos {
			if e := l.Unlock(0, who); e != api.ErrEmpty {
				t.Errorf("Unlock of a free one, for %d: %d", who, e)
			}
			if who == holder {
				continue
			}
			if e := l.Unlock(1, who); e != api.ErrEmpty {
				t.Errorf("Unlock for %d, where %d holds it: %d", who, holder, e)
			}
			compare(t, l, m)
		}
		unlock(t, l, m, 1, holder)
		if e := l.Unlock(1, holder); e != api.ErrEmpty {
			t.Errorf("a second Unlock for %d: %d", holder, e)
		}
		compare(t, l, m)
	}
}

// TestNobody: a free lock isn't somebody's whose number is 0.
func TestNobody(t *testing.T) {
	l := New([]int{9, 9})
	if who, held := l.Holder(0); who != 0 || held {
		t.Error(who, held)
	}
	if n := l.Free(0); n != 0 {
		t.Error(n)
	}
	if e := l.Unlock(0, 0); e != api.ErrEmpty {
		t.Error(e)
	}
	if held := l.Held(0); len(held) != 0 {
		t.Error(held)
	}
	if level := l.Level(0, 1); level != 1 {
		t.Error(level)
	}
	l.Lock(0, 5)
	l.Unlock(0, 5)
	if who, held := l.Holder(0); who != 0 || held {
		t.Error("freed:", who, held)
	}
	l.Lock(1, 0)
	if who, held := l.Holder(1); who != 0 || !held {
		t.Error("held by 0:", who, held)
	}
}

func TestFree(t *testing.T) {
	l, m := made(4, 9, 2, 9, 6)
	lockOne(t, l, m, 4, 1)
	lockOne(t, l, m, 0, 1)
	lockOne(t, l, m, 1, 2)
	lockOne(t, l, m, 3, 1)
	if held := l.Held(1); !slices.Equal(held, []int{0, 3, 4}) {
		t.Errorf("held are %v", held)
	}
	if n := l.Free(3); n != 0 {
		t.Errorf("Free of who holds none: %d", n)
	}
	if n := l.Free(1); n != 3 {
		t.Errorf("Free: %d", n)
	}
	m.free(1)
	compare(t, l, m)
	free(t, l, m, 1)
	lockOne(t, l, m, 3, 2) // what was freed may be locked
	free(t, l, m, 2)
}

// TestCeilings: any ceiling may be, and of those that are held the greatest counts, in whatever order they were locked.
func TestCeilings(t *testing.T) {
	for _, ceilings := range [][]int{
		{0, 63, 31}, {63, 0, 31}, {31, 0, 63}, {5, 5, 5},
		{-1, -9, math.MinInt}, {64, 1000, math.MaxInt},
	} {
		l, m := made(ceilings...)
		for i := range ceilings {
			lockOne(t, l, m, i, 8)
		}
		for i := range ceilings {
			unlock(t, l, m, i, 8)
		}
		for i := range ceilings {
			lockOne(t, l, m, len(ceilings)-1-i, 2)
		}
		free(t, l, m, 2)
	}
}

func TestHowMany(t *testing.T) {
	for _, count := range []int{0, 1, 2, 4, 5, 8, 300} {
		l, m := made(slices.Repeat([]int{2}, count)...)
		compare(t, l, m)
		for i := range count {
			if e := l.Lock(i, 3); e != api.OK {
				t.Fatalf("Lock of %d, of %d: %d", i, count, e)
			}
		}
		if n := l.Free(3); n != count {
			t.Errorf("Free of %d: %d", count, n)
		}
		compare(t, l, m)
	}
	if New([]int{}).Len() != 0 || New(nil).Len() != 0 {
		t.Error("there are locks of no ceilings")
	}
}

func TestNoSuchLock(t *testing.T) {
	for _, ceilings := range [][]int{nil, {}, {1}, {2, 1, 2}} {
		l, m := made(ceilings...)
		for i := range ceilings { // all are held, so that there is no free one either
			lockOne(t, l, m, i, 0)
		}
		for _, i := range outside(len(ceilings)) {
			for _, who := range whos {
				if e := l.Lock(i, who); e != api.ErrNone {
					t.Errorf("Lock of %d, of %d: %d", i, len(ceilings), e)
				}
				if e := l.Unlock(i, who); e != api.ErrNone {
					t.Errorf("Unlock of %d, of %d: %d", i, len(ceilings), e)
				}
			}
			if who, held := l.Holder(i); who != 0 || held {
				t.Errorf("Holder of %d, of %d: %d, %t", i, len(ceilings), who, held)
			}
			compare(t, l, m)
		}
	}
}

func TestCallsInAnyOrder(t *testing.T) {
	seed := uint32(13)
	draw := func(n int) int {
		seed = seed*1664525 + 1013904223
		return int(seed>>8) % n
	}
	for range 60 {
		var ceilings []int
		for range draw(6) {
			ceilings = append(ceilings, draw(api.MaxLevel))
		}
		l, m := made(ceilings...)
		for range 300 {
			i, who := draw(len(ceilings)+2)-1, whos[draw(4)]
			switch draw(8) {
			case 0:
				free(t, l, m, who)
			case 1, 2, 3:
				unlock(t, l, m, i, who)
			default:
				lockOne(t, l, m, i, who)
			}
		}
	}
}

// TestLocksStandForThemselves: others of the same ceilings are free still.
func TestLocksStandForThemselves(t *testing.T) {
	l, m := made(3, 4)
	lockOne(t, l, m, 1, 1)
	other, n := made(3, 4)
	compare(t, other, n)
	lockOne(t, other, n, 1, 2)
	free(t, other, n, 2)
	compare(t, l, m)
}

func TestNothingIsShared(t *testing.T) {
	ceilings := []int{7, 9}
	l := New(ceilings)
	if !slices.Equal(ceilings, []int{7, 9}) {
		t.Errorf("the ceilings are changed: %v", ceilings)
	}
	ceilings[0], ceilings[1] = 1, 2
	l.Lock(0, 1)
	if level := l.Level(1, 0); level != 7 {
		t.Errorf("the ceilings are kept: level %d", level)
	}
	l.Lock(1, 1)
	held := l.Held(1)
	held[0], held[1] = 5, 6
	if again := l.Held(1); !slices.Equal(again, []int{0, 1}) {
		t.Errorf("what was told is kept: %v", again)
	}
}

func TestNilLocks(t *testing.T) {
	for name, l := range map[string]*Locks{"nil": nil, "ones that New didn't make": {}} {
		for _, i := range outside(0) {
			for _, who := range whos {
				if e := l.Lock(i, who); e != api.ErrNone {
					t.Errorf("%s: Lock of %d: %d", name, i, e)
				}
				if e := l.Unlock(i, who); e != api.ErrNone {
					t.Errorf("%s: Unlock of %d: %d", name, i, e)
				}
				if n := l.Free(who); n != 0 {
					t.Errorf("%s: Free of %d: %d", name, who, n)
				}
			}
		}
		compare(t, l, &model{})
	}
}
