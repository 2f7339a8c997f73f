package cache

import (
	"fmt"
	"math"
	"slices"
	"testing"

	"signalbox/api"
)

// model is a cache as plain as can be: all accesses since it was empty. What is there, and how old, is counted from their end on.
type model struct {
	sets, ways int
	used       []int
}

func (m *model) of(block int) int {
	if block < 0 || block > 255 {
		return -1
	}
	return block % m.sets
}

// recent are all blocks of a set that were ever used, the one used last first.
func (m *model) recent(set int) []int {
	var l []int
	for _, block := range slices.Backward(m.used) {
		if m.of(block) == set && !slices.Contains(l, block) {
			l = append(l, block)
		}
	}
	return l
}

// age is how many other blocks of its set were used since a block was; -1 if these are as many as there are ways, or it never was.
func (m *model) age(block int) int {
	i := slices.Index(m.recent(m.of(block)), block)
	if i >= m.ways {
		return -1
	}
	return i
}

func (m *model) set(i int) []int {
	l := m.recent(i)
	return l[:min(len(l), m.ways)]
}

// outside are blocks that there aren't.
func outside() []int {
	return []int{math.MinInt, -256, -16, -1, 256, 257, 1 << 32, 1<<32 + 1, math.MaxInt}
}

// compare asks a cache all that leaves it as it is.
func compare(t *testing.T, c *Cache, m *model) {
	t.Helper()
	for block := range 256 {
		if c.Of(block) != m.of(block) || c.Age(block) != m.age(block) || c.Has(block) != (m.age(block) >= 0) {
			t.Fatalf("%v: block %d: Of %d, Age %d, Has %v", *m, block, c.Of(block), c.Age(block), c.Has(block))
		}
	}
	for _, block := range outside() {
		if c.Of(block) != -1 || c.Age(block) != -1 || c.Has(block) {
			t.Fatalf("%v: block %d: Of %d, Age %d, Has %v", *m, block, c.Of(block), c.Age(block), c.Has(block))
		}
	}
	for i := range m.sets {
		if got := c.Set(i); !slices.Equal(got, m.set(i)) {
			t.Fatalf("%v: Set(%d) is %v, want %v", *m, i, got, m.set(i))
		}
	}
	for _, i := range []int{math.MinInt, -1, m.sets, m.sets + 1, 16, math.MaxInt} {
		if got := c.Set(i); len(got) != 0 {
			t.Fatalf("Set(%d) of %d sets is %v", i, m.sets, got)
		}
	}
}

// access uses a block in both.
func access(t *testing.T, c *Cache, m *model, block int) {
	t.Helper()
	want := m.age(block) >= 0
	if found, e := c.Access(block); found != want || e != api.OK {
		t.Fatalf("%v: Access(%d) is %v, %d, want %v", *m, block, found, e, want)
	}
	m.used = append(m.used, block)
}

// made is a cache in which these were used, and its model.
func made(t *testing.T, sets, ways int, used ...int) (*Cache, *model) {
	t.Helper()
	c, m := New(sets, ways), &model{sets: sets, ways: ways}
	for _, block := range used {
		access(t, c, m, block)
	}
	compare(t, c, m)
	return c, m
}

// drawing is a row of numbers that look drawn.
func drawing(seed uint32) func(n int) int {
	return func(n int) int {
		seed = seed*1664525 + 1013904223
		return int(seed>>8) % n
	}
}

func TestExample(t *testing.T) {
	c := New(1, 1)
	for _, block := range []int{3, 4, 3} {
		if found, e := c.Access(block); found || e != api.OK {
			t.Error(block, found, e)
		}
	}
}

func TestNew(t *testing.T) {
	edges := []int{math.MinInt, -4, -1, 0, 1, 2, 3, 4, 5, 15, 16, 17, 64, 1 << 32, 1<<32 + 1, math.MaxInt}
	for _, sets := range edges {
		for _, ways := range edges {
			c := New(sets, ways)
			if may := sets >= 1 && sets <= 16 && ways >= 1 && ways <= 4; (c != nil) != may {
				t.Errorf("New(%d, %d) is nil: %v", sets, ways, c == nil)
			}
			if c != nil {
				compare(t, c, &model{sets: sets, ways: ways})
			}
		}
	}
}

func TestOneSet(t *testing.T) {
	c, _ := made(t, 1, 3)
	for _, step := range []struct {
		block int
		found bool
		then  []int
	}{
		{7, false, []int{7}},
		{7, true, []int{7}},
		{8, false, []int{8, 7}},
		{7, true, []int{7, 8}},
		{9, false, []int{9, 7, 8}},
		{8, true, []int{8, 9, 7}},
		{8, true, []int{8, 9, 7}},
		{9, true, []int{9, 8, 7}},
		{0, false, []int{0, 9, 8}},
		{7, false, []int{7, 0, 9}},
		{255, false, []int{255, 7, 0}},
		{7, true, []int{7, 255, 0}},
		{0, true, []int{0, 7, 255}},
	} {
		if found, e := c.Access(step.block); found != step.found || e != api.OK {
			t.Fatalf("Access(%d) is %v, %d", step.block, found, e)
		}
		if got := c.Set(0); !slices.Equal(got, step.then) {
			t.Fatalf("behind Access(%d): %v, want %v", step.block, got, step.then)
		}
		for age, block := range step.then {
			if c.Age(block) != age || !c.Has(block) {
				t.Fatalf("%v: Age(%d) is %d", step.then, block, c.Age(block))
			}
		}
	}
	if c.Age(9) != -1 || c.Has(9) {
		t.Error("9 is there still")
	}
}

func TestBlockNoughtIsNotThereAtFirst(t *testing.T) {
	for ways := 1; ways <= 4; ways++ {
		c, m := made(t, 1, ways)
		access(t, c, m, 5)
		if c.Has(0) || c.Age(0) != -1 {
			t.Errorf("%d ways: 0 is there", ways)
		}
		access(t, c, m, 0)
		access(t, c, m, 0)
		compare(t, c, m)
	}
}

// TestSetsStandForThemselves: a full set neither reaches into the next one nor is reached by the one ahead.
func TestSetsStandForThemselves(t *testing.T) {
	for sets := 1; sets <= 16; sets++ {
		for ways := 1; ways <= 4; ways++ {
			c, m := made(t, sets, ways)
			for i := range sets {
				for j := range ways + 1 {
					access(t, c, m, (i+sets*j)%256)
					access(t, c, m, sets-1)
				}
			}
			compare(t, c, m)
		}
	}
}

func TestNoSuchBlock(t *testing.T) {
	c, m := made(t, 3, 2, 4, 7, 5)
	for _, block := range outside() {
		if found, e := c.Access(block); found || e != api.ErrRange {
			t.Errorf("Access(%d) is %v, %d", block, found, e)
		}
		compare(t, c, m)
	}
	for _, block := range []int{0, 255} {
		access(t, c, m, block)
	}
	compare(t, c, m)
}

func TestCallsInAnyOrder(t *testing.T) {
	draw := drawing(3)
	for range 150 {
		c, m := made(t, 1+draw(16), 1+draw(4))
		span := 1 + draw(256)
		for range 150 {
			if draw(40) == 0 {
				c.Clear()
				m.used = nil
			}
			access(t, c, m, draw(span))
		}
		compare(t, c, m)
	}
}

// TestFoundByTheOthersSince: whatever came before, an access finds its block just if fewer other blocks of its set were used since than there are ways.
func TestFoundByTheOthersSince(t *testing.T) {
	draw := drawing(9)
	for sets := 1; sets <= 16; sets += 3 {
		for ways := 1; ways <= 4; ways++ {
			for others := range 7 {
				c, _ := made(t, sets, ways)
				for range draw(30) {
					c.Access(draw(256))
				}
				const block = 16
				c.Access(block)
				for i := range 3 * others { // each of the others, in rounds
					c.Access(block + sets*(1+i%others))
				}
				for range 20 { // of other sets as many as may be
					if n := draw(256); n%sets != block%sets {
						c.Access(n)
					}
				}
				if found, e := c.Access(block); found != (others < ways) || e != api.OK {
					t.Errorf("%d sets, %d ways, %d others: %v, %d", sets, ways, others, found, e)
				}
			}
		}
	}
}

func TestTwin(t *testing.T) {
	for sets := 1; sets <= 16; sets++ {
		for ways := 1; ways <= 4; ways++ {
			draw := drawing(uint32(sets*ways + 1))
			c, m := made(t, sets, ways)
			for range draw(100) {
				access(t, c, m, draw(256))
			}
			twin, n := c.Twin(), &model{sets: sets, ways: ways, used: slices.Clone(m.used)}
			compare(t, twin, n)
			for range 20 {
				access(t, twin, n, draw(256))
			}
			compare(t, c, m)
			for range 20 {
				access(t, c, m, draw(256))
			}
			compare(t, twin, n)
			c.Clear()
			compare(t, twin, n)
			compare(t, c.Twin(), &model{sets: sets, ways: ways})
		}
	}
}

func TestClear(t *testing.T) {
	c, m := made(t, 2, 2, 1, 2, 3, 4, 5, 6)
	for range 2 {
		c.Clear()
		m.used = nil
		compare(t, c, m)
	}
	for _, block := range []int{5, 6, 0, 5, 1} {
		access(t, c, m, block)
	}
	compare(t, c, m)
}

func TestSetsAreNewMemory(t *testing.T) {
	c, m := made(t, 2, 3, 0, 2, 4, 1)
	for i := range 2 {
		l := c.Set(i)
		l[0] = 77
		_ = append(l[:1], 78, 79)
		_ = append(l, 80)
	}
	compare(t, c, m)
}

func TestNilCache(t *testing.T) {
	for name, c := range map[string]*Cache{"nil": nil, "one that New didn't make": {}} {
		for _, block := range append(outside(), 0, 1, 7, 255) {
			want := api.ErrArg
			if block < 0 || block > 255 {
				want = api.ErrRange // named first
			}
			if found, e := c.Access(block); found || e != want {
				t.Errorf("%s: Access(%d) is %v, %d", name, block, found, e)
			}
			told := fmt.Sprint(c.Has(block), c.Age(block), c.Of(block), len(c.Set(block)), c.Twin() == nil)
			if told != "false -1 -1 0 true" {
				t.Errorf("%s: block %d: %s", name, block, told)
			}
		}
		c.Clear()
	}
}
