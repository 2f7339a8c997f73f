package busy

import (
	"math/big"
	"slices"
	"testing"

	"signalbox/api"
)

// top is the greatest number, typed.
const top uint64 = api.Unbounded

// drawing is a row of numbers below n that look drawn.
func drawing(seed uint32) func(n int) int {
	return func(n int) int {
		seed = seed*1664525 + 1013904223
		return int(seed>>8) % n
	}
}

// edges are numbers around which answers turn.
func edges() []uint64 {
	l := []uint64{0, 1, 2, 3, 7, 10, 255}
	for _, e := range []uint{20, 24, 31, 32, 40, 63} {
		l = append(l, 1<<e-1, 1<<e, 1<<e+1)
	}
	return append(l, top/2, top-2, top-1, top)
}

// slow are loads whose windows take very many steps: 1/2 + 1/3 + 1/7 + 1/43 + 1/1807 is 1 - 1/3263442.
func slow() []Load {
	return []Load{{1, 2}, {1, 3}, {1, 7}, {1, 43}, {1, 1807}}
}

// slowWindow is the window of a delay of 1, and, so many times, that of a greater one.
const slowWindow = 3263442

// full are loads that take all there is: 1/2 + 1/3 + 1/7 + 1/42 is 1.
func full() []Load {
	return []Load{{1, 2}, {1, 3}, {1, 7}, {1, 42}}
}

func whole(n uint64) *big.Int { return new(big.Int).SetUint64(n) }

// plainDemand counts with numbers of any size; what is Unbounded stays so.
func plainDemand(delay uint64, l []Load, x uint64) uint64 {
	sum := whole(delay)
	for _, load := range l {
		often := whole(top)
		switch {
		case x == 0:
			often = whole(0)
		case load.Period > 0 && x < top:
			q, r := new(big.Int).DivMod(whole(x), whole(load.Period), new(big.Int))
			often = q.Add(q, big.NewInt(int64(r.Sign())))
		}
		sum.Add(sum, often.Mul(often, whole(load.Cost)))
	}
	if sum.IsUint64() {
		return sum.Uint64()
	}
	return top
}

// plainWindow tries each number.
func plainWindow(delay uint64, l []Load, most uint64) (uint64, bool) {
	for x := uint64(1); x <= most && x <= api.MaxTime; x++ {
		if plainDemand(delay, l, x) <= x {
			return x, true
		}
	}
	return top, false
}

// plainSlack tries each delay.
func plainSlack(l []Load, most uint64) (uint64, bool) {
	slack, found := uint64(0), false
	for delay := uint64(0); delay <= most; delay++ {
		if _, ok := plainWindow(delay, l, most); ok {
			slack, found = delay, true
		}
	}
	return slack, found
}

func TestExample(t *testing.T) {
	l := []Load{{3, 10}}
	for _, most := range []uint64{5, 6, 100, api.MaxTime, top} {
		if x, ok := Window(2, l, most); x != 5 || !ok {
			t.Errorf("most %d: %d, %v", most, x, ok)
		}
	}
	if Demand(2, l, 5) != 5 || Demand(2, l, 10) != 5 || Demand(2, l, 11) != 8 {
		t.Error(Demand(2, l, 5), Demand(2, l, 10), Demand(2, l, 11))
	}
	if d, ok := Slack(l, 10); d != 7 || !ok {
		t.Error(d, ok)
	}
}

func TestDemand(t *testing.T) {
	for _, c := range []struct {
		delay uint64
		l     []Load
		x     uint64
		want  uint64
	}{
		{0, nil, 0, 0}, {0, nil, 9, 0}, {7, nil, 0, 7}, {7, []Load{}, top, 7}, {top, nil, 0, top},
		{4, []Load{{3, 10}}, 0, 4}, {4, []Load{{3, 10}}, 1, 7}, {4, []Load{{3, 10}}, 10, 7}, {4, []Load{{3, 10}}, 11, 10}, {4, []Load{{3, 10}}, 20, 10}, {4, []Load{{3, 10}}, 21, 13},
		{1, []Load{{3, 10}, {2, 4}, {3, 10}}, 11, 19}, // each one, also of the same numbers
		{4, []Load{{3, 1}}, 6, 22},
		{4, []Load{{3, 0}}, 0, 4}, {4, []Load{{3, 0}}, 1, top}, // a period of 0 makes nothing, however often it comes
		{4, []Load{{0, 0}}, 1, 4}, {4, []Load{{0, 0}}, top, 4}, {4, []Load{{0, 5}}, top, 4}, // 0 as often as may be is 0
		{4, []Load{{3, 10}}, top, top}, {4, []Load{{1, top}}, top, top}, {4, []Load{{1, top}}, top - 1, 5},
		{4, []Load{{top, 10}}, 0, 4}, {4, []Load{{top, 10}}, 1, top}, {0, []Load{{top - 1, 10}}, 10, top - 1}, {0, []Load{{top - 1, 10}}, 11, top},
		{1, []Load{{top - 2, 10}}, 10, top - 1}, {2, []Load{{top - 2, 10}}, 10, top}, {top - 1, []Load{{5, 10}}, 3, top},
		{0, []Load{{1 << 63, 10}, {1<<63 - 1, 10}}, 3, top}, {0, []Load{{1 << 63, 10}, {1 << 63, 10}, {5, 5}}, 3, top},
	} {
		if got := Demand(c.delay, c.l, c.x); got != c.want {
			t.Errorf("%+v: %d", c, got)
		}
	}
}

func TestDemandIsExactOrUnbounded(t *testing.T) {
	draw := drawing(25)
	l := edges()
	any := func() uint64 { return l[draw(len(l))] }
	for range 20000 {
		loads := make([]Load, draw(5))
		for i := range loads {
			loads[i] = Load{any(), any()}
		}
		delay, x := any(), any()
		if got, want := Demand(delay, loads, x), plainDemand(delay, loads, x); got != want {
			t.Fatalf("delay %d, %v, in %d: %d, want %d", delay, loads, x, got, want)
		}
	}
}

func TestWindow(t *testing.T) {
	for _, c := range []struct {
		delay uint64
		l     []Load
		want  uint64
	}{
		{0, nil, 1}, {1, nil, 1}, {2, nil, 2}, {77, []Load{}, 77},
		{0, []Load{{0, 0}}, 1}, {9, []Load{{0, 0}, {0, 5}}, 9},
		{0, []Load{{1, 1}}, 1}, {0, []Load{{5, 5}}, 5}, {0, []Load{{5, 9}}, 5}, {0, []Load{{1, top}}, 1}, {0, []Load{{5, top}}, 5},
		{4, []Load{{5, 9}}, 9}, {5, []Load{{5, 9}}, 15}, {8, []Load{{5, 9}}, 18}, {9, []Load{{5, 9}}, 24}, // up to a period's end, and a tick beyond it
		{0, []Load{{5, 10}, {5, 10}}, 10}, {0, []Load{{2, 5}, {4, 7}}, 14}, {0, []Load{{1, 3}, {1, 3}, {1, 3}}, 3},
		{0, full(), 42}, {0, slow()[:4], 42}, {1, []Load{{1, 2}}, 2}, {2, []Load{{1, 2}}, 4}, {3, []Load{{1, 2}}, 6},
	} {
		was := slices.Clone(c.l)
		for _, most := range []uint64{c.want, c.want + 1, 1000, api.MaxTime, api.MaxTime + 1, top} {
			if x, ok := Window(c.delay, c.l, most); x != c.want || !ok {
				t.Errorf("%+v, most %d: %d, %v", c, most, x, ok)
			}
		}
		for _, most := range []uint64{0, c.want / 2, c.want - 1} {
			if x, ok := Window(c.delay, c.l, most); x != top || ok {
				t.Errorf("%+v, most %d: %d, %v", c, most, x, ok)
			}
		}
		if !slices.Equal(c.l, was) {
			t.Errorf("%v is changed: %v", was, c.l)
		}
	}
}

func TestNoWindow(t *testing.T) {
	for _, c := range []struct {
		delay uint64
		l     []Load
	}{
		{top, nil}, {top - 1, nil}, {0, []Load{{1, 0}}}, {0, []Load{{top, 0}}}, {0, []Load{{top, top}}}, {0, []Load{{top, 1}}},
		{0, []Load{{6, 5}}}, {0, []Load{{1, 2}, {1, 3}, {1, 5}}}, {5, full()}, {1, []Load{{1, 1}}}, {0, []Load{{1, 1}, {1, 1 << 20}}},
		{0, []Load{{0, 0}, {1, 0}}}, {1 << 30, []Load{{1, 5}}}, {top, []Load{{top, top}, {top, top}}},
	} {
		for _, most := range []uint64{0, 1, 2, 500, api.MaxTime, top} {
			if x, ok := Window(c.delay, c.l, most); x != top || ok {
				t.Errorf("%+v, most %d: %d, %v", c, most, x, ok)
			}
		}
	}
}

// TestWindowUpToMaxTime: whatever most is, a window isn't above that.
func TestWindowUpToMaxTime(t *testing.T) {
	const last = api.MaxTime
	for _, most := range []uint64{last, last + 1, 1 << 32, 1 << 63, top - 1, top} {
		for _, c := range []struct {
			delay uint64
			l     []Load
			found bool
		}{
			{last - 1, nil, true}, {last, nil, true}, {last + 1, nil, false},
			{last - 4, []Load{{3, last}}, true}, {last - 3, []Load{{3, last}}, true}, {last - 2, []Load{{3, last}}, false},
			{0, []Load{{last, last}}, true}, {0, []Load{{last, 1 << 30}}, true}, {0, []Load{{last + 1, 1 << 30}}, false},
			{last / 2, []Load{{1, 2}}, true}, {last/2 + 1, []Load{{1, 2}}, false},
		} {
			x, ok := Window(c.delay, c.l, most)
			want := plainDemand(c.delay, c.l, last)
			if !c.found {
				want = top
			}
			if x != want || ok != c.found {
				t.Errorf("%+v, most %d: %d, %v, want %d", c, most, x, ok, want)
			}
		}
	}
}

// TestWindowOfManySteps: however many steps it takes, the window is found.
func TestWindowOfManySteps(t *testing.T) {
	for delay := uint64(1); delay <= 5; delay++ {
		want := delay * slowWindow
		if x, ok := Window(delay, slow(), top); x != want || !ok {
			t.Errorf("delay %d: %d, %v, want %d", delay, x, ok, want)
		}
		if x, ok := Window(delay, slow(), want); x != want || !ok {
			t.Errorf("delay %d, no more than the window: %d, %v", delay, x, ok)
		}
		if x, ok := Window(delay, slow(), want-1); x != top || ok {
			t.Errorf("delay %d, less than the window: %d, %v", delay, x, ok)
		}
	}
	if x, ok := Window(6, slow(), top); x != top || ok {
		t.Errorf("delay 6: %d, %v", x, ok)
	}
	if d, ok := Slack(slow(), top); d != 5 || !ok {
		t.Errorf("slack %d, %v", d, ok)
	}
	if d, ok := Slack(slow(), 3*slowWindow-1); d != 2 || !ok {
		t.Errorf("slack ahead of the third window %d, %v", d, ok)
	}
}

func TestSlack(t *testing.T) {
	for _, c := range []struct {
		l     []Load
		most  uint64
		want  uint64
		found bool
	}{
		{nil, 0, 0, false}, {nil, 1, 1, true}, {nil, 2, 2, true}, {[]Load{}, 77, 77, true}, // even that of 0 is 1
		{nil, api.MaxTime, api.MaxTime, true}, {nil, api.MaxTime + 1, api.MaxTime, true}, {nil, top, api.MaxTime, true},
		{[]Load{{0, 0}}, 9, 9, true}, {[]Load{{1, 0}}, 9, 0, false},
		{[]Load{{5, 9}}, 4, 0, false}, {[]Load{{5, 9}}, 5, 0, true}, {[]Load{{5, 9}}, 6, 1, true}, {[]Load{{5, 9}}, 9, 4, true},
		{[]Load{{5, 9}}, 10, 4, true}, {[]Load{{5, 9}}, 14, 4, true}, {[]Load{{5, 9}}, 15, 5, true}, {[]Load{{5, 9}}, 18, 8, true}, {[]Load{{5, 9}}, 19, 8, true},
		{[]Load{{1, 1}}, 1, 0, true}, {[]Load{{1, 1}}, top, 0, true}, {[]Load{{5, 5}}, 4, 0, false}, {[]Load{{5, 5}}, 5, 0, true},
		{full(), 41, 0, false}, {full(), 42, 0, true}, {full(), 99, 0, true},
		{[]Load{{6, 5}}, top, 0, false}, {[]Load{{top, top}}, top, 0, false}, {[]Load{{top, 0}}, 0, 0, false},
		{[]Load{{3, top}}, top, api.MaxTime - 3, true}, {[]Load{{1, 2}}, top, api.MaxTime / 2, true}, {[]Load{{1, 4}, {1, 4}, {1, 4}}, top, api.MaxTime / 4, true},
		{[]Load{{api.MaxTime, top}}, top, 0, true}, {[]Load{{api.MaxTime + 1, top}}, top, 0, false},
	} {
		was := slices.Clone(c.l)
		if d, ok := Slack(c.l, c.most); d != c.want || ok != c.found {
			t.Errorf("%+v: %d, %v", c, d, ok)
		}
		if !slices.Equal(c.l, was) {
			t.Errorf("%v is changed: %v", was, c.l)
		}
	}
}

// anyLoads are some that often have windows, and sometimes numbers that are far off.
func anyLoads(draw func(n int) int) []Load {
	l := make([]Load, draw(5))
	for i := range l {
		l[i] = Load{Cost: uint64(draw(6)), Period: uint64(1 + draw(24))}
		if draw(30) == 0 {
			l[i].Period = []uint64{0, 1 << 40, top}[draw(3)]
		}
		if draw(60) == 0 {
			l[i].Cost = []uint64{1 << 40, top}[draw(2)]
		}
	}
	return l
}

func TestOfAnyLoads(t *testing.T) {
	draw := drawing(7)
	windows, slacks := 0, 0
	for range 1500 {
		l := anyLoads(draw)
		delay, most := uint64(draw(12)), uint64(draw(90))
		x, ok := Window(delay, l, most)
		if want, found := plainWindow(delay, l, most); x != want || ok != found {
			t.Fatalf("delay %d, %v, most %d: window %d, %v, want %d, %v", delay, l, most, x, ok, want, found)
		}
		d, has := Slack(l, most)
		if want, found := plainSlack(l, most); d != want || has != found {
			t.Fatalf("%v, most %d: slack %d, %v, want %d, %v", l, most, d, has, want, found)
		}
		if ok && x > 12 {
			windows++
		}
		if has && d > 0 && d < most {
			slacks++
		}
	}
	if windows < 200 || slacks < 200 {
		t.Errorf("only %d windows and %d slacks say much", windows, slacks)
	}
}

// TestGreaterDelays: none has a lesser window, and one that is behind a slack has none.
func TestGreaterDelays(t *testing.T) {
	draw := drawing(252)
	for range 500 {
		l := anyLoads(draw)
		most := uint64(100 + draw(400))
		slack, some := Slack(l, most)
		last := uint64(1)
		for delay := uint64(0); delay <= most+1; delay++ {
			x, ok := Window(delay, l, most)
			if x < last || ok != (x <= most) || ok != (some && delay <= slack) {
				t.Fatalf("%v, most %d, delay %d: %d, %v; ahead of it %d; slack %d, %v", l, most, delay, x, ok, last, slack, some)
			}
			last = x
		}
	}
}

// done is the first tick, from 1 on, at which all is done that came before it: the delay, and of each load its cost each time it comes.
func done(delay uint64, l []Load, most uint64, gap func(i int) uint64) uint64 {
	next := make([]uint64, len(l))
	left := delay
	for now := uint64(0); now < most; now++ {
		for i, load := range l {
			if now == next[i] {
				left += load.Cost
				next[i] += gap(i)
			}
		}
		if left > 0 {
			left--
		}
		if left == 0 {
			return now + 1
		}
	}
	return top
}

// TestWorkIsDone: of work that comes as often as may be it is done at the window's end, of other work no later.
func TestWorkIsDone(t *testing.T) {
	draw := drawing(90)
	sooner := 0
	for range 5000 {
		l := make([]Load, 1+draw(4))
		for i := range l {
			l[i] = Load{Cost: uint64(draw(5)), Period: uint64(1 + draw(20))}
		}
		delay, most := uint64(draw(10)), uint64(600)
		x, _ := Window(delay, l, most)
		if got := done(delay, l, most, func(i int) uint64 { return l[i].Period }); got != x {
			t.Fatalf("delay %d, %v: done at %d, the window is %d", delay, l, got, x)
		}
		seldom := done(delay, l, most, func(i int) uint64 { return l[i].Period + uint64(draw(4)) })
		if seldom > x {
			t.Fatalf("delay %d, %v: done at %d, the window is %d", delay, l, seldom, x)
		}
		if seldom < x && x < top {
			sooner++
		}
	}
	if sooner < 100 {
		t.Errorf("only %d are done sooner", sooner)
	}
}
