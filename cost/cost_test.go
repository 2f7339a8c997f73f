package cost

import (
	"fmt"
	"math"
	"slices"
	"testing"

	"signalbox/api"
	"signalbox/cache"
)

// drawing is a row of numbers that look drawn.
func drawing(seed uint32) func(n int) int {
	return func(n int) int {
		seed = seed*1664525 + 1013904223
		return int(seed>>8) % n
	}
}

// accesses is a program of nothing else.
func accesses(blocks ...int) []api.Op {
	var l []api.Op
	for _, block := range blocks {
		l = append(l, api.Op{Kind: api.OpAccess, A: block})
	}
	return l
}

// used is a cache in which these were used.
func used(t *testing.T, sets, ways int, blocks ...int) *cache.Cache {
	t.Helper()
	c := cache.New(sets, ways)
	for _, block := range blocks {
		if _, e := c.Access(block); e != api.OK {
			t.Fatalf("Access(%d): %d", block, e)
		}
	}
	return c
}

// content is all that a cache has.
func content(c *cache.Cache) string {
	var rows [][]int
	for i := range api.MaxSets {
		rows = append(rows, c.Set(i))
	}
	return fmt.Sprint(rows)
}

// numbers are numbers with what each counts as.
func numbers() map[int]int {
	return map[int]int{
		math.MinInt: 0, -1 << 40: 0, -1 << 30: 0, -2: 0, -1: 0,
		0: 0, 1: 1, 2: 2, 100: 100, 101: 101, 1000: 1000, 1001: 1001, 1 << 20: 1 << 20,
		1<<30 - 1: 1<<30 - 1, 1 << 30: 1 << 30,
		1<<30 + 1: 1 << 30, 1 << 31: 1 << 30, 1 << 32: 1 << 30, 1<<32 + 5: 1 << 30, math.MaxInt: 1 << 30,
	}
}

// outside are blocks that there aren't.
func outside() []int {
	return []int{math.MinInt, -256, -1, 256, 257, 1 << 30, 1<<30 + 1, 1 << 32, math.MaxInt}
}

func TestExample(t *testing.T) {
	l := []api.Op{{Kind: api.OpCompute, A: 5}, {Kind: api.OpEnter}}
	m := api.Machine{Sets: 1, Ways: 1, Hit: 2, Miss: 9}
	if Worst(l, m) != 6 || Best(l, m) != 6 {
		t.Error(Worst(l, m), Best(l, m))
	}
	if misses, cycles := Alone(l, m, nil); misses != 0 || cycles != 6 {
		t.Error(misses, cycles)
	}
}

func TestOfCompute(t *testing.T) {
	for n, want := range numbers() {
		for _, hit := range []bool{false, true} {
			for _, m := range []api.Machine{{}, {Sets: 1, Ways: 1, Hit: 7, Miss: 70}, {Hit: -1, Miss: math.MaxInt}} {
				if got := Of(api.Op{Kind: api.OpCompute, A: n}, m, hit); got != want {
					t.Errorf("a compute of %d takes %d, want %d", n, got, want)
				}
			}
		}
	}
}

func TestOfAccess(t *testing.T) {
	for n, want := range numbers() {
		for _, block := range append(outside(), 0, 1, 255) {
			o := api.Op{Kind: api.OpAccess, A: block}
			if got := Of(o, api.Machine{Hit: n, Miss: 33}, true); got != want {
				t.Errorf("an access to %d with Hit %d takes %d, want %d", block, n, got, want)
			}
			if got := Of(o, api.Machine{Hit: 33, Miss: n}, false); got != want {
				t.Errorf("an access to %d with Miss %d takes %d, want %d", block, n, got, want)
			}
		}
	}
}

// TestOfOthers: whatever their numbers and the machine's are, all others take one cycle.
func TestOfOthers(t *testing.T) {
	kinds := []int{math.MinInt, -1, 0, 16, 17, 1 << 32, 1<<32 + 1, 1<<32 + 2, math.MaxInt}
	for kind := api.OpEnter; kind <= api.OpKinds; kind++ {
		kinds = append(kinds, kind)
	}
	for _, kind := range kinds {
		for n := range numbers() {
			for _, hit := range []bool{false, true} {
				o := api.Op{Kind: kind, A: n, B: n}
				m := api.Machine{Sets: n, Ways: n, Hit: n, Miss: n}
				if got := Of(o, m, hit); got != 1 {
					t.Errorf("%v with %v, %v takes %d", o, m, hit, got)
				}
			}
		}
	}
}

func TestWorstAndBest(t *testing.T) {
	m := api.Machine{Sets: 2, Ways: 1, Hit: 3, Miss: 20}
	for _, c := range []struct {
		l           []api.Op
		worst, best int
		accesses    int
	}{
		{nil, 0, 0, 0},
		{[]api.Op{}, 0, 0, 0},
		{[]api.Op{{Kind: 1, A: 1000}}, 1000, 1000, 0},
		{[]api.Op{{Kind: 1}}, 0, 0, 0},
		{[]api.Op{{Kind: 1, A: -7}, {Kind: 3}}, 1, 1, 0},
		{[]api.Op{{Kind: 0}, {Kind: -1}, {Kind: 16}}, 3, 3, 0},
		{accesses(0), 20, 3, 1},
		{accesses(5, 5, 5), 60, 9, 3}, // of one block too, none is found, or each
		{accesses(-1, 256, math.MaxInt), 60, 9, 3},
		{append(accesses(1, 2), api.Op{Kind: 1, A: 4}, api.Op{Kind: 9, A: 2, B: 2}), 45, 11, 2},
		{append(accesses(1), api.Op{Kind: 1, A: 1<<30 + 9}, api.Op{Kind: 1, A: math.MaxInt}), 20 + 2<<30, 3 + 2<<30, 1},
	} {
		before := slices.Clone(c.l)
		if Worst(c.l, m) != c.worst || Best(c.l, m) != c.best || Accesses(c.l) != c.accesses {
			t.Errorf("%v: Worst %d, Best %d, Accesses %d, want %d, %d, %d", c.l, Worst(c.l, m), Best(c.l, m), Accesses(c.l), c.worst, c.best, c.accesses)
		}
		if !slices.Equal(c.l, before) {
			t.Errorf("%v is changed: %v", before, c.l)
		}
	}
}

func TestCostsOfTheMachine(t *testing.T) {
	l := append(accesses(1, 2, 1), api.Op{Kind: 1, A: 10})
	for n, counts := range numbers() {
		m := api.Machine{Sets: 1, Ways: 2, Hit: n, Miss: 40}
		if Best(l, m) != 10+3*counts || Worst(l, m) != 130 {
			t.Errorf("%v: Best %d, Worst %d", m, Best(l, m), Worst(l, m))
		}
		if misses, cycles := Alone(l, m, cache.New(1, 2)); misses != 2 || cycles != 90+counts {
			t.Errorf("%v: Alone %d, %d", m, misses, cycles)
		}
		m.Hit, m.Miss = 40, n
		if Best(l, m) != 130 || Worst(l, m) != 10+3*counts {
			t.Errorf("%v: Best %d, Worst %d", m, Best(l, m), Worst(l, m))
		}
		if misses, cycles := Alone(l, m, cache.New(1, 2)); misses != 2 || cycles != 50+2*counts {
			t.Errorf("%v: Alone %d, %d", m, misses, cycles)
		}
	}
}

// TestLongRows: sums of the greatest numbers don't wrap round.
func TestLongRows(t *testing.T) {
	const many = 1 << 17
	m := api.Machine{Hit: math.MaxInt, Miss: math.MaxInt}
	for _, o := range []api.Op{{Kind: 1, A: math.MaxInt}, {Kind: 2, A: math.MaxInt}, {Kind: 2, A: 7}} {
		l := slices.Repeat([]api.Op{o}, many)
		const want = many << 30
		if Worst(l, m) != want || Best(l, m) != want {
			t.Errorf("%v: Worst %d, Best %d", o, Worst(l, m), Best(l, m))
		}
		if _, cycles := Alone(l, m, cache.New(1, 1)); cycles != want {
			t.Errorf("%v: %d cycles alone", o, cycles)
		}
	}
}

func TestAlone(t *testing.T) {
	m := api.Machine{Sets: 16, Ways: 4, Hit: 1, Miss: 10} // whose sets and ways don't matter: the cache has its own
	for _, c := range []struct {
		sets, ways     int
		before, blocks []int
		misses, cycles int
	}{
		{1, 1, nil, nil, 0, 0},
		{1, 1, []int{3}, nil, 0, 0},
		{1, 1, nil, []int{3, 4, 3}, 3, 30},
		{1, 2, nil, []int{3, 4, 3}, 2, 21},
		{2, 1, nil, []int{3, 4, 3}, 2, 21},
		{1, 1, []int{3}, []int{3, 4, 3}, 2, 21},
		{1, 2, []int{4, 3}, []int{3, 4, 3}, 0, 3},
		{1, 2, []int{3, 4}, []int{5, 4, 3}, 2, 21}, // 3 was used longest ago, and goes
		{1, 2, []int{4, 3}, []int{5, 4, 3}, 3, 30},
		{2, 2, nil, []int{0, 2, 4, 1, 0, 1, 4}, 5, 52},
		{1, 1, nil, []int{0}, 1, 10},
		{1, 1, []int{0}, []int{0}, 0, 1},
		{16, 4, nil, []int{255, 239, 255}, 2, 21},
	} {
		k := used(t, c.sets, c.ways, c.before...)
		l, was := accesses(c.blocks...), content(k)
		for range 2 { // the cache is as it was, so that it is so again
			if misses, cycles := Alone(l, m, k); misses != c.misses || cycles != c.cycles {
				t.Errorf("%d sets of %d, %v, %v: %d, %d, want %d, %d", c.sets, c.ways, c.before, c.blocks, misses, cycles, c.misses, c.cycles)
			}
			if content(k) != was {
				t.Fatalf("%v: the cache was %s, and is %s", c.blocks, was, content(k))
			}
		}
		if !slices.Equal(l, accesses(c.blocks...)) {
			t.Errorf("%v is changed: %v", c.blocks, l)
		}
	}
}

func TestAloneTellsAllOperations(t *testing.T) {
	l := []api.Op{{Kind: 1, A: 5}, {Kind: 2, A: 7}, {Kind: 3}, {Kind: 2, A: 7}, {Kind: 99, A: 7}, {Kind: 4}, {Kind: 1, A: -3}, {Kind: 1, A: 7}}
	m := api.Machine{Sets: 1, Ways: 1, Hit: 2, Miss: 30}
	if misses, cycles := Alone(l, m, cache.New(1, 1)); misses != 1 || cycles != 5+30+1+2+1+1+0+7 {
		t.Error(misses, cycles)
	}
}

func TestAloneFromNoCache(t *testing.T) {
	l := append(accesses(3, 3, 0, -1, 256, 3), api.Op{Kind: 1, A: 8})
	m := api.Machine{Sets: 1, Ways: 4, Hit: 1, Miss: 10}
	for name, c := range map[string]*cache.Cache{"nil": nil, "one that New didn't make": {}} {
		if misses, cycles := Alone(l, m, c); misses != 6 || cycles != 68 {
			t.Errorf("%s: %d, %d", name, misses, cycles)
		}
		if misses, cycles := Alone(nil, m, c); misses != 0 || cycles != 0 {
			t.Errorf("%s: nothing: %d, %d", name, misses, cycles)
		}
	}
}

// TestNoBlockMisses: an access to no block misses each time, and takes no other block's place.
func TestNoBlockMisses(t *testing.T) {
	m := api.Machine{Sets: 1, Ways: 1, Hit: 1, Miss: 10}
	for _, block := range outside() {
		for _, there := range []int{0, 255} {
			k := used(t, 1, 1, there)
			if misses, cycles := Alone(accesses(block, there, block, there), m, k); misses != 2 || cycles != 22 {
				t.Errorf("block %d: %d, %d", block, misses, cycles)
			}
		}
	}
}

func TestBlocks(t *testing.T) {
	for _, c := range []struct{ blocks, want []int }{
		{nil, nil},
		{[]int{4}, []int{4}},
		{[]int{0}, []int{0}},
		{[]int{4, 4, 4}, []int{4}},
		{[]int{5, 1, 3}, []int{1, 3, 5}},
		{[]int{5, 1, 5, 3, 1, 255, 0, 3}, []int{0, 1, 3, 5, 255}},
		{[]int{256, -1, 7, 256, -1}, []int{-1, 7, 256}},
		{[]int{math.MaxInt, 1<<30 + 1, 1 << 30, math.MinInt, -5, 0}, []int{math.MinInt, -5, 0, 1 << 30, 1<<30 + 1, math.MaxInt}},
	} {
		l := accesses(c.blocks...)
		if got := Blocks(l); !slices.Equal(got, c.want) {
			t.Errorf("%v: %v, want %v", c.blocks, got, c.want)
		}
		if !slices.Equal(l, accesses(c.blocks...)) {
			t.Errorf("%v is changed: %v", c.blocks, l)
		}
	}
}

func TestBlocksOfAccessesAlone(t *testing.T) {
	var l []api.Op
	for kind := -1; kind <= api.OpKinds+1; kind++ {
		l = append(l, api.Op{Kind: kind, A: 10 + kind, B: 90})
	}
	if got := Blocks(l); !slices.Equal(got, []int{12}) || Accesses(l) != 1 {
		t.Error(got, Accesses(l))
	}
}

func TestBlocksAreNewMemory(t *testing.T) {
	l := accesses(2, 1)
	a, b := Blocks(l), Blocks(l)
	a[0] = 77
	_ = append(a[:1], 78)
	if !slices.Equal(b, []int{1, 2}) || !slices.Equal(l, accesses(2, 1)) {
		t.Error(b, l)
	}
}

// program is one of any operations, those that may not be among them.
func program(draw func(n int) int) []api.Op {
	span := 1 + draw(300)
	var l []api.Op
	for range draw(60) {
		o := api.Op{Kind: draw(api.OpKinds + 2), A: draw(span) - 2, B: draw(9)}
		if draw(2) == 0 {
			o.Kind = api.OpAccess
		}
		l = append(l, o)
	}
	return l
}

// plainly is what Alone is to tell, of all blocks that were ever used: one is found if since then fewer others of its set were used than there are ways.
func plainly(l []api.Op, m api.Machine, sets, ways int, before []int) (misses, cycles int) {
	past := slices.Clone(before)
	for _, o := range l {
		switch {
		case o.Kind == api.OpCompute:
			cycles += max(o.A, 0)
		case o.Kind != api.OpAccess:
			cycles++
		case o.A >= 0 && o.A <= 255 && found(past, o.A, sets, ways):
			cycles += m.Hit
			past = append(past, o.A)
		default:
			misses++
			cycles += m.Miss
			if o.A >= 0 && o.A <= 255 {
				past = append(past, o.A)
			}
		}
	}
	return misses, cycles
}

func found(past []int, block, sets, ways int) bool {
	var since []int
	for _, other := range slices.Backward(past) {
		if other == block {
			return len(since) < ways
		}
		if other%sets == block%sets && !slices.Contains(since, other) {
			since = append(since, other)
		}
	}
	return false
}

func TestAloneOfAnyProgram(t *testing.T) {
	draw := drawing(4)
	for range 2000 {
		sets, ways := 1+draw(16), 1+draw(4)
		m := api.Machine{Sets: sets, Ways: ways, Hit: draw(100), Miss: draw(100)}
		l := program(draw)
		var before []int
		for range draw(30) {
			before = append(before, draw(256))
		}
		k := used(t, sets, ways, before...)
		was := content(k)
		misses, cycles := Alone(l, m, k)
		wantMisses, wantCycles := plainly(l, m, sets, ways, before)
		if misses != wantMisses || cycles != wantCycles {
			t.Fatalf("%v, %v, %v: %d, %d, want %d, %d", m, before, l, misses, cycles, wantMisses, wantCycles)
		}
		if content(k) != was {
			t.Fatalf("the cache was %s, and is %s", was, content(k))
		}
	}
}

// TestAloneIsBetween: from any cache on, alone lies between the best and the worst, when a miss costs no less than a hit, whatever they count as.
func TestAloneIsBetween(t *testing.T) {
	draw := drawing(8)
	var costs []int
	for n := range numbers() {
		costs = append(costs, n)
	}
	slices.Sort(costs) // maps have no order, and the draws shall be the same each time
	for range 3000 {
		i := draw(len(costs))
		m := api.Machine{Sets: draw(20), Ways: draw(6), Hit: costs[i], Miss: costs[i+draw(len(costs)-i)]}
		k := cache.New(m.Sets, m.Ways) // nil, at times
		for range draw(30) {
			k.Access(draw(256))
		}
		l := program(draw)
		misses, cycles := Alone(l, m, k)
		if cycles < Best(l, m) || cycles > Worst(l, m) {
			t.Fatalf("%v, %v: %d isn't in %d to %d", m, l, cycles, Best(l, m), Worst(l, m))
		}
		if misses < 0 || misses > Accesses(l) {
			t.Fatalf("%v, %v: %d misses of %d accesses", m, l, misses, Accesses(l))
		}
	}
}
