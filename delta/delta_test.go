package delta

import (
	"math"
	"slices"
	"testing"

	"signalbox/api"
)

// timer is a key and in how many ticks it is due: a list as plain as can be is a row of them.
type timer struct{ key, due int }

type model []timer

func (m model) at(key int) int {
	return slices.IndexFunc(m, func(x timer) bool { return x.key == key })
}

func (m *model) put(key, ticks int) api.Errno {
	switch {
	case ticks < 0 || ticks > api.MaxTime:
		return api.ErrRange
	case m.at(key) >= 0:
		return api.ErrTwice
	case len(*m) == api.MaxEvents:
		return api.ErrFull
	}
	*m = append(*m, timer{key, ticks})
	slices.SortStableFunc(*m, func(a, b timer) int { return a.due - b.due })
	return api.OK
}

func (m *model) drop(key int) bool {
	i := m.at(key)
	if i < 0 {
		return false
	}
	*m = slices.Delete(*m, i, i+1)
	return true
}

func (m *model) advance(ticks int) []int {
	if ticks < 0 {
		return nil
	}
	var gone []int
	var rest model
	for _, x := range *m {
		if x.due <= ticks {
			gone = append(gone, x.key)
		} else {
			rest = append(rest, timer{x.key, x.due - ticks})
		}
	}
	*m = rest
	return gone
}

// outside are keys that no test puts.
func outside() []int { return []int{-77, 7777, 1 << 40} }

// compare asks a list all that leaves it as it is.
func compare(t *testing.T, l *List, m model) {
	t.Helper()
	var keys, gaps []int
	last := 0
	for _, x := range m {
		keys = append(keys, x.key)
		gaps = append(gaps, x.due-last)
		last = x.due
	}
	if got := l.Keys(); !slices.Equal(got, keys) {
		t.Fatalf("Keys %v, want %v", got, keys)
	}
	if got := l.Gaps(); !slices.Equal(got, gaps) {
		t.Fatalf("Gaps %v, want %v", got, gaps)
	}
	next, ok := l.Next()
	if ok != (len(m) > 0) || !ok && next != 0 || ok && next != m[0].due {
		t.Fatalf("%v: Next %d, %v", m, next, ok)
	}
	for _, x := range m {
		if due, ok := l.Due(x.key); !ok || due != x.due {
			t.Fatalf("%v: Due(%d) is %d, %v", m, x.key, due, ok)
		}
	}
	for _, key := range outside() {
		if due, ok := l.Due(key); ok || due != 0 {
			t.Fatalf("%v: Due(%d) is %d, %v", m, key, due, ok)
		}
	}
}

// made is a list of these, put in this order, and its model.
func made(t *testing.T, all ...timer) (*List, *model) {
	t.Helper()
	l, m := New(), &model{}
	for _, x := range all {
		got, want := l.Put(x.key, x.due), m.put(x.key, x.due)
		if got != want {
			t.Fatalf("Put(%d, %d) is %d, want %d", x.key, x.due, got, want)
		}
	}
	compare(t, l, *m)
	return l, m
}

func TestExample(t *testing.T) {
	l := New()
	if l.Put(1, 3) != api.OK || l.Put(2, 5) != api.OK {
		t.Fatal(l.Keys())
	}
	if got := l.Gaps(); !slices.Equal(got, []int{3, 2}) {
		t.Error(got)
	}
}

func TestBehindAllThatAreDueThenOrEarlier(t *testing.T) {
	l, _ := made(t, timer{1, 5}, timer{2, 3}, timer{3, 5}, timer{4, 0}, timer{5, 3}, timer{6, 9}, timer{7, 5}, timer{8, 0}, timer{9, 4})
	if got := l.Keys(); !slices.Equal(got, []int{4, 8, 2, 5, 9, 1, 3, 7, 6}) {
		t.Error(got)
	}
	if got := l.Gaps(); !slices.Equal(got, []int{0, 0, 3, 0, 1, 1, 0, 0, 4}) {
		t.Error(got)
	}
	if got := l.Advance(3); !slices.Equal(got, []int{4, 8, 2, 5}) {
		t.Error(got)
	}
	l.Put(20, 2) // as late as 1, 3 and 7, which wait since earlier
	if got := l.Keys(); !slices.Equal(got, []int{9, 1, 3, 7, 20, 6}) {
		t.Error(got)
	}
}

func TestTicksOfPut(t *testing.T) {
	l, m := made(t, timer{1, api.MaxTime}, timer{2, 0}, timer{3, api.MaxTime - 1}, timer{4, api.MaxTime})
	for _, ticks := range []int{-1, -2, math.MinInt, api.MaxTime + 1, 1 << 32, math.MaxInt} {
		for _, key := range []int{1, 9} { // of a key that is there, too: the ticks are asked first
			if e := l.Put(key, ticks); e != api.ErrRange {
				t.Errorf("Put(%d, %d) is %d", key, ticks, e)
			}
		}
	}
	compare(t, l, *m)
}

func TestKeysAreThereOnce(t *testing.T) {
	l, m := made(t, timer{0, 2}, timer{-1, 2}, timer{math.MaxInt, 4}, timer{math.MinInt, 1})
	for _, key := range []int{0, -1, math.MaxInt, math.MinInt} {
		for _, ticks := range []int{0, 2, 9} {
			if e := l.Put(key, ticks); e != api.ErrTwice {
				t.Errorf("Put(%d, %d) is %d", key, ticks, e)
			}
		}
	}
	compare(t, l, *m)
	if !l.Drop(0) || !m.drop(0) || l.Put(0, 3) != api.OK || m.put(0, 3) != api.OK {
		t.Error("a key that is gone can be put again")
	}
	compare(t, l, *m)
	if got, want := l.Advance(2), m.advance(2); !slices.Equal(got, want) || l.Put(-1, 0) != api.OK || m.put(-1, 0) != api.OK {
		t.Error("a key that was due can be put again", got)
	}
	compare(t, l, *m)
}

func TestFull(t *testing.T) {
	l, m := New(), &model{}
	for key := range api.MaxEvents {
		if got, want := l.Put(key, key*37%100), m.put(key, key*37%100); got != api.OK || want != api.OK {
			t.Fatal(key, got)
		}
	}
	compare(t, l, *m)
	for _, c := range []struct {
		key, ticks int
		want       api.Errno
	}{{1000, -1, api.ErrRange}, {3, -1, api.ErrRange}, {3, 5, api.ErrTwice}, {1000, 5, api.ErrFull}, {1000, 0, api.ErrFull}} {
		if e := l.Put(c.key, c.ticks); e != c.want {
			t.Errorf("Put(%d, %d) is %d, want %d", c.key, c.ticks, e, c.want)
		}
	}
	compare(t, l, *m)
	if l.Drop(1000) || !l.Drop(3) || !m.drop(3) {
		t.Error("drops of a full list")
	}
	if l.Put(1000, 50) != api.OK || m.put(1000, 50) != api.OK || l.Put(1001, 1) != api.ErrFull {
		t.Error("room for one, behind a drop")
	}
	compare(t, l, *m)
	if got, want := l.Advance(0), m.advance(0); len(want) == 0 || !slices.Equal(got, want) {
		t.Errorf("Advance(0) is %v, want %v", got, want)
	}
	free := api.MaxEvents - len(*m)
	for i := range free {
		if l.Put(2000+i, 60) != api.OK || m.put(2000+i, 60) != api.OK {
			t.Error("room for as many as were due:", i)
		}
	}
	if l.Put(3000, 1) != api.ErrFull {
		t.Error("room for more")
	}
	compare(t, l, *m)
}

func TestDrop(t *testing.T) {
	for key := 1; key <= 5; key++ {
		l, m := made(t, timer{1, 2}, timer{2, 2}, timer{3, 7}, timer{4, 8}, timer{5, 8})
		if !l.Drop(key) || !m.drop(key) {
			t.Errorf("%d was there", key)
		}
		compare(t, l, *m)
		if l.Drop(key) {
			t.Errorf("%d was there still", key)
		}
		if due, ok := l.Due(key); ok || due != 0 {
			t.Errorf("%d is due in %d, %v", key, due, ok)
		}
		compare(t, l, *m)
		for _, other := range *m {
			if !l.Drop(other.key) {
				t.Errorf("%d was there", other.key)
			}
		}
		compare(t, l, nil)
	}
	if New().Drop(0) {
		t.Error("0 was there")
	}
}

func TestAdvance(t *testing.T) {
	all := []timer{{1, 0}, {2, 3}, {3, 3}, {4, 4}, {5, 10}, {6, api.MaxTime}}
	for _, ticks := range []int{math.MinInt, -5, -1, 0, 1, 2, 3, 4, 5, 9, 10, 11, api.MaxTime - 1, api.MaxTime, api.MaxTime + 1, 1 << 40, math.MaxInt} {
		l, m := made(t, all...)
		for range 2 {
			if got, want := l.Advance(ticks), m.advance(ticks); !slices.Equal(got, want) {
				t.Errorf("Advance(%d) is %v, want %v", ticks, got, want)
			}
			compare(t, l, *m)
		}
	}
	if got := New().Advance(5); len(got) != 0 {
		t.Error(got)
	}
}

func TestTickByTickIsAsAtOnce(t *testing.T) {
	all := []timer{{1, 4}, {2, 1}, {3, 4}, {4, 0}, {5, 6}, {6, 1}, {7, 9}}
	slow, _ := made(t, all...)
	fast, m := made(t, all...)
	var one []int
	for range 7 {
		one = append(one, slow.Advance(1)...)
	}
	want := m.advance(7)
	if got := fast.Advance(7); !slices.Equal(got, want) || !slices.Equal(one, want) {
		t.Errorf("at once %v, tick by tick %v, want %v", got, one, want)
	}
	compare(t, slow, *m)
	compare(t, fast, *m)
}

func TestCallsInAnyOrder(t *testing.T) {
	l, m := New(), &model{}
	seed := uint32(7)
	draw := func(n int) int {
		seed = seed*1664525 + 1013904223
		return int(seed>>8) % n
	}
	for range 6000 {
		key := draw(24) - 4
		switch draw(5) {
		case 0, 1, 2:
			ticks := draw(14) - 1
			if got, want := l.Put(key, ticks), m.put(key, ticks); got != want {
				t.Fatalf("%v: Put(%d, %d) is %d, want %d", *m, key, ticks, got, want)
			}
		case 3:
			if got, want := l.Drop(key), m.drop(key); got != want {
				t.Fatalf("%v: Drop(%d) is %v", *m, key, got)
			}
		case 4:
			ticks := draw(5) - 1
			if got, want := l.Advance(ticks), m.advance(ticks); !slices.Equal(got, want) {
				t.Fatalf("Advance(%d) is %v, want %v", ticks, got, want)
			}
		}
		compare(t, l, *m)
	}
}

func TestNilList(t *testing.T) {
	var l *List
	for range 2 {
		for _, ticks := range []int{-1, 0, 5, api.MaxTime + 1} {
			if e := l.Put(1, ticks); e != api.ErrArg {
				t.Errorf("Put(1, %d) is %d", ticks, e)
			}
			if got := l.Advance(ticks); len(got) != 0 {
				t.Errorf("Advance(%d) is %v", ticks, got)
			}
		}
		if due, ok := l.Due(1); l.Drop(1) || due != 0 || ok {
			t.Error("a nil list has a key", due, ok)
		}
		compare(t, l, nil)
	}
}

func TestEmptyLists(t *testing.T) {
	compare(t, New(), nil)
	var l List
	compare(t, &l, nil)
	if l.Put(5, 2) != api.OK {
		t.Error("a list that New didn't make takes none")
	}
	compare(t, &l, model{{5, 2}})
}

func TestNothingIsShared(t *testing.T) {
	l, m := made(t, timer{1, 2}, timer{2, 5}, timer{3, 5})
	keys, gaps := l.Keys(), l.Gaps()
	keys[0], gaps[0] = 90, 91
	_, _ = append(keys[:1], 92), append(gaps[:1], 93)
	compare(t, l, *m)
	gone := l.Advance(5)
	if m.advance(5); !slices.Equal(gone, []int{1, 2, 3}) {
		t.Error(gone)
	}
	l.Put(4, 1)
	m.put(4, 1)
	gone[0] = 94
	compare(t, l, *m)
	other := New()
	other.Put(4, 9)
	compare(t, l, *m)
	compare(t, other, model{{4, 9}})
}
