package count

import (
	"math"
	"slices"
	"testing"

	"signalbox/api"
)

// model are counts as plain as can be: what was given and not taken, and the mosts.
type model struct {
	mosts []int
	given [][]int
}

func (m *model) has(i int) bool { return i >= 0 && i < len(m.mosts) }

func (m *model) value(i int) (int, api.Errno) {
	if !m.has(i) {
		return 0, api.ErrNone
	}
	return len(m.given[i]), api.OK
}

func (m *model) give(i int) (int, api.Errno) {
	n, e := m.value(i)
	switch {
	case e != api.OK:
		return n, e
	case n == m.mosts[i]:
		return n, api.ErrFull
	}
	m.given[i] = append(m.given[i], 1)
	return m.value(i)
}

func (m *model) take(i int) (int, api.Errno) {
	n, e := m.value(i)
	switch {
	case e != api.OK:
		return n, e
	case n == 0:
		return n, api.ErrEmpty
	}
	m.given[i] = m.given[i][1:]
	return m.value(i)
}

// made are counts of mosts that may be, and their model.
func made(mosts ...int) (*Counts, *model) {
	return New(mosts), &model{mosts: mosts, given: make([][]int, len(mosts))}
}

// outside are numbers that none of so many counts has.
func outside(count int) []int {
	return []int{math.MinInt, -1 << 32, -2, -1, count, count + 1, 1 << 32, math.MaxInt}
}

// compare asks counts all that leaves them as they are, and holds them between 0 and their mosts.
func compare(t *testing.T, c *Counts, m *model) {
	t.Helper()
	if c.Len() != len(m.mosts) {
		t.Fatalf("Len %d, want %d", c.Len(), len(m.mosts))
	}
	for i, most := range m.mosts {
		want, _ := m.value(i)
		v, e := c.Value(i)
		if v != want || e != api.OK {
			t.Fatalf("Value(%d): %d, %d, want %d", i, v, e, want)
		}
		if v < 0 || v > most {
			t.Fatalf("count %d is %d, of %d at most", i, v, most)
		}
	}
	for _, i := range outside(len(m.mosts)) {
		if v, e := c.Value(i); v != 0 || e != api.ErrNone {
			t.Fatalf("Value(%d), of %d: %d, %d", i, len(m.mosts), v, e)
		}
	}
}

func give(t *testing.T, c *Counts, m *model, i int) {
	t.Helper()
	want, wantError := m.give(i)
	if v, e := c.Give(i); v != want || e != wantError {
		t.Fatalf("Give(%d): %d, %d, want %d, %d", i, v, e, want, wantError)
	}
	compare(t, c, m)
}

func take(t *testing.T, c *Counts, m *model, i int) {
	t.Helper()
	want, wantError := m.take(i)
	if v, e := c.Take(i); v != want || e != wantError {
		t.Fatalf("Take(%d): %d, %d, want %d, %d", i, v, e, want, wantError)
	}
	compare(t, c, m)
}

func TestExample(t *testing.T) {
	c := New([]int{1})
	if v, e := c.Give(0); v != 1 || e != api.OK {
		t.Error(v, e)
	}
	if v, e := c.Give(0); v != 1 || e != api.ErrFull {
		t.Error(v, e)
	}
}

// TestRefused: a refused call tells what the count is still.
func TestRefused(t *testing.T) {
	c := New([]int{3})
	if v, e := c.Take(0); v != 0 || e != api.ErrEmpty {
		t.Error(v, e)
	}
	for want := 1; want <= 3; want++ {
		if v, e := c.Give(0); v != want || e != api.OK {
			t.Error(v, e)
		}
	}
	for range 3 {
		if v, e := c.Give(0); v != 3 || e != api.ErrFull {
			t.Error(v, e)
		}
	}
	for want := 2; want >= 0; want-- {
		if v, e := c.Take(0); v != want || e != api.OK {
			t.Error(v, e)
		}
	}
	for range 3 {
		if v, e := c.Take(0); v != 0 || e != api.ErrEmpty {
			t.Error(v, e)
		}
	}
}

// TestMosts: a most that a count can't have is as if it was 1.
func TestMosts(t *testing.T) {
	for most, want := range map[int]int{
		1: 1, 2: 2, 3: 3, 4: 4, 5: 5, 6: 6, 7: 7, 8: 8,
		0: 1, -1: 1, -8: 1, math.MinInt: 1, 9: 1, 10: 1, 255: 1, 1<<32 + 2: 1, math.MaxInt: 1,
	} {
		c := New([]int{most})
		m := &model{mosts: []int{want}, given: make([][]int, 1)}
		compare(t, c, m)
		for range 3 {
			for range want + 2 {
				give(t, c, m, 0)
			}
			for range want + 2 {
				take(t, c, m, 0)
			}
		}
	}
}

func TestHowMany(t *testing.T) {
	for _, count := range []int{0, 1, 2, 4, 5, 8, 9, 300} {
		c, m := made(slices.Repeat([]int{2}, count)...)
		compare(t, c, m)
		for i := range count {
			give(t, c, m, i)
		}
	}
	if New([]int{}).Len() != 0 || New(nil).Len() != 0 {
		t.Error("there are counts of no mosts")
	}
}

func TestNoSuchCount(t *testing.T) {
	for _, mosts := range [][]int{nil, {}, {1}, {2, 1, 2}} {
		c, m := made(mosts...)
		for i := range mosts { // one is full, so that there is no room either
			give(t, c, m, i)
		}
		for _, i := range outside(len(mosts)) {
			if v, e := c.Give(i); v != 0 || e != api.ErrNone {
				t.Errorf("Give of %d, of %d: %d, %d", i, len(mosts), v, e)
			}
			if v, e := c.Take(i); v != 0 || e != api.ErrNone {
				t.Errorf("Take of %d, of %d: %d, %d", i, len(mosts), v, e)
			}
			compare(t, c, m)
		}
	}
}

// TestCountsStandForThemselves: a full one and an empty one side by side.
func TestCountsStandForThemselves(t *testing.T) {
	c, m := made(1, 3, 8, 2)
	for range 4 {
		give(t, c, m, 0)
		give(t, c, m, 2)
	}
	for range 2 {
		take(t, c, m, 1)
		take(t, c, m, 2)
		take(t, c, m, 3)
	}
	d, n := made(1, 3, 8, 2) // others of the same mosts are at 0
	compare(t, d, n)
	give(t, d, n, 1)
	compare(t, c, m)
}

func TestCallsInAnyOrder(t *testing.T) {
	seed := uint32(12)
	draw := func(n int) int {
		seed = seed*1664525 + 1013904223
		return int(seed>>8) % n
	}
	for range 60 {
		var mosts []int
		for range 1 + draw(4) {
			mosts = append(mosts, 1+draw(api.MaxRoom))
		}
		c, m := made(mosts...)
		for i := range 400 {
			bias := 1 + i/50%3 // up for a while, even for a while, down for a while
			at := draw(len(mosts)+2) - 1
			if draw(4) >= bias {
				give(t, c, m, at)
			} else {
				take(t, c, m, at)
			}
		}
	}
}

func TestMostsAreNotKept(t *testing.T) {
	mosts := []int{2, 0, 9}
	c := New(mosts)
	if !slices.Equal(mosts, []int{2, 0, 9}) {
		t.Errorf("the mosts are changed: %v", mosts)
	}
	mosts[0], mosts[1], mosts[2] = 1, 8, 8
	for i, want := range []int{2, 1, 1} {
		for range 10 {
			c.Give(i)
		}
		if v, e := c.Value(i); v != want || e != api.OK {
			t.Errorf("count %d goes up to %d, %d, want %d", i, v, e, want)
		}
	}
}

func TestNilCounts(t *testing.T) {
	for name, c := range map[string]*Counts{"nil": nil, "ones that New didn't make": {}} {
		for _, i := range outside(0) {
			if v, e := c.Give(i); v != 0 || e != api.ErrNone {
				t.Errorf("%s: Give of %d: %d, %d", name, i, v, e)
			}
			if v, e := c.Take(i); v != 0 || e != api.ErrNone {
				t.Errorf("%s: Take of %d: %d, %d", name, i, v, e)
			}
		}
		compare(t, c, &model{})
	}
}
