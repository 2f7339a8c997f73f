package edf

import (
	"math"
	"slices"
	"testing"
)

// most is the greatest number that a work's may be.
const most = 1 << 20

// drawing is a row of numbers below n that look drawn.
func drawing(seed uint32) func(n int) int {
	return func(n int) int {
		seed = seed*1664525 + 1013904223
		return int(seed>>8) % n
	}
}

// counted is what a number counts as.
func counted(n int) int {
	switch {
	case n < 0:
		return 0
	case n > most:
		return most
	}
	return n
}

// plain runs works tick by tick: when each is done, and whose each tick is.
func plain(l []Work) (ends, order []int) {
	left, open := make([]int, len(l)), 0
	ends = make([]int, len(l))
	for i, w := range l {
		left[i] = counted(w.Cost)
		ends[i] = counted(w.Release)
		open += left[i]
	}
	for now := 0; open > 0; now++ {
		first := -1
		for i, w := range l {
			if left[i] > 0 && counted(w.Release) <= now && (first < 0 || counted(w.Due) < counted(l[first].Due)) {
				first = i
			}
		}
		order = append(order, first)
		if first >= 0 {
			left[first]--
			ends[first] = now + 1
			open--
		}
	}
	return ends, order
}

// plainLate are those whose end is behind what is due.
func plainLate(l []Work, ends []int) []int {
	var late []int
	for i, w := range l {
		if ends[i] > counted(w.Due) {
			late = append(late, i)
		}
	}
	return late
}

// compare holds all that is told of works against the plain run of them.
func compare(t *testing.T, l []Work) {
	t.Helper()
	was := slices.Clone(l)
	ends, order := plain(l)
	if got := Run(l); !slices.Equal(got, ends) {
		t.Fatalf("%v: done at %v, want %v", l, got, ends)
	}
	if got, want := Late(l), plainLate(l, ends); !slices.Equal(got, want) {
		t.Fatalf("%v, done at %v: late are %v, want %v", l, ends, got, want)
	}
	for _, ticks := range []int{0, 1, 2, len(order) / 2, len(order) - 1, len(order), len(order) + 1, len(order) + 7} {
		if ticks < 0 || ticks > 4096 {
			continue
		}
		want := slices.Clone(order[:min(ticks, len(order))])
		for len(want) < ticks {
			want = append(want, -1)
		}
		if got := Order(l, ticks); !slices.Equal(got, want) {
			t.Fatalf("%v: the first %d ticks are those of %v, want %v", l, ticks, got, want)
		}
	}
	if !slices.Equal(l, was) {
		t.Fatalf("%v is changed: %v", was, l)
	}
}

func TestExample(t *testing.T) {
	l := []Work{{Cost: 2, Due: 4}, {Cost: 2, Due: 2}}
	if got := Run(l); !slices.Equal(got, []int{4, 2}) {
		t.Error(got)
	}
	if got := Late(l); len(got) != 0 {
		t.Error(got)
	}
	if got := Order(l, 6); !slices.Equal(got, []int{1, 1, 0, 0, -1, -1}) {
		t.Error(got)
	}
}

func TestRunAndLate(t *testing.T) {
	for _, c := range []struct {
		l          []Work
		ends, late []int
	}{
		{nil, nil, nil}, {[]Work{}, nil, nil},
		{[]Work{{}}, []int{0}, nil}, {[]Work{{3, 2, 5}}, []int{5}, nil}, {[]Work{{3, 2, 4}}, []int{5}, []int{0}}, {[]Work{{3, 2, 0}}, []int{5}, []int{0}},
		{[]Work{{5, 0, 5}}, []int{5}, nil}, {[]Work{{5, 0, 4}}, []int{5}, []int{0}}, // of no Cost: done at its release, which may be late
		{[]Work{{0, 9, 9}, {2, 0, 2}}, []int{9, 2}, nil}, // and nobody's tick is spent on it
		{[]Work{{0, 5, 9}, {1, 1, 9}}, []int{5, 6}, nil}, // of one Due: the first of the row, whenever it came
		{[]Work{{1, 1, 9}, {0, 5, 9}}, []int{2, 6}, nil},
		{[]Work{{0, 5, 9}, {1, 1, 8}}, []int{6, 2}, nil}, // who is due earlier goes on at once
		{[]Work{{0, 2, 3}, {0, 2, 3}, {0, 2, 3}}, []int{2, 4, 6}, []int{1, 2}},
		{[]Work{{0, 3, 9}, {0, 1, 1}, {3, 2, 4}, {7, 1, 8}}, []int{6, 1, 5, 8}, []int{2}},
		{[]Work{{9, 1, 10}, {0, 1, 10}, {4, 1, 10}}, []int{10, 1, 5}, nil}, // nobody's ticks between
		{[]Work{{8, 2, 9}, {7, 2, 9}}, []int{10, 11}, []int{0, 1}},
		{[]Work{{-5, 2, 4}}, []int{2}, nil}, {[]Work{{0, -2, 4}}, []int{0}, nil}, {[]Work{{0, 2, -4}}, []int{2}, []int{0}},
		{[]Work{{0, 2, -4}, {0, 1, -9}, {0, 1, 0}}, []int{2, 3, 4}, []int{0, 1, 2}}, // all are due at 0, so they go by the row
		{[]Work{{math.MinInt, math.MinInt, math.MinInt}}, []int{0}, nil},
		{[]Work{{math.MaxInt, 2, math.MaxInt}}, []int{most + 2}, []int{0}}, {[]Work{{most + 1, 0, most + 5}}, []int{most}, nil}, {[]Work{{most, 1, most + 1}}, []int{most + 1}, []int{0}},
		{[]Work{{0, math.MaxInt, most}}, []int{most}, nil}, {[]Work{{0, most + 1, most}, {0, 1, most - 1}}, []int{most + 1, 1}, []int{0}},
		{[]Work{{0, 2, math.MaxInt}, {0, 1, most + 3}, {0, 1, most}}, []int{2, 3, 4}, nil}, // all are due at 2^20
		{[]Work{{0, 1, most}, {0, 1, most - 1}}, []int{2, 1}, nil},
		{[]Work{{most, most, most}, {most, most, most}, {0, most, most}}, []int{2 * most, 3 * most, most}, []int{0, 1}},
	} {
		was := slices.Clone(c.l)
		if got := Run(c.l); !slices.Equal(got, c.ends) {
			t.Errorf("%v: done at %v, want %v", c.l, got, c.ends)
		}
		if got := Late(c.l); !slices.Equal(got, c.late) {
			t.Errorf("%v: late are %v, want %v", c.l, got, c.late)
		}
		if !slices.Equal(c.l, was) {
			t.Errorf("%v is changed: %v", was, c.l)
		}
	}
}

func TestOrder(t *testing.T) {
	for _, c := range []struct {
		l    []Work
		want []int // of the first ticks; behind them come nobody's
	}{
		{nil, nil}, {[]Work{}, nil}, {[]Work{{}}, nil}, {[]Work{{0, -3, 5}}, nil},
		{[]Work{{2, 1, 5}}, []int{-1, -1, 0}}, {[]Work{{-2, 1, 5}}, []int{0}}, {[]Work{{0, 2, -1}}, []int{0, 0}},
		{[]Work{{0, 4, 9}, {1, 2, 4}, {2, 1, 3}}, []int{0, 1, 2, 1, 0, 0, 0}},
		{[]Work{{5, 1, 9}, {0, 2, 9}, {6, 1, 7}, {6, 0, 6}, {4, 1, 5}}, []int{1, 1, -1, -1, 4, 0, 2}},
		{[]Work{{3, 2, 9}, {0, 2, 9}, {3, 1, 9}}, []int{1, 1, -1, 0, 0, 2}},
	} {
		for _, ticks := range []int{0, 1, 2, 3, 5, 7, 8, 50, 4095, 4096} {
			want := slices.Repeat([]int{-1}, ticks)
			copy(want, c.want)
			if got := Order(c.l, ticks); !slices.Equal(got, want) {
				t.Errorf("%v, %d ticks: %v", c.l, ticks, got)
			}
		}
		for _, ticks := range []int{-1, 4097, 1 << 20, math.MinInt, math.MaxInt} {
			if got := Order(c.l, ticks); len(got) != 0 {
				t.Errorf("%v, %d ticks: %d are told", c.l, ticks, len(got))
			}
		}
	}
	if got := Order([]Work{{4095, 9, 0}}, 4096); got[4094] != -1 || got[4095] != 0 {
		t.Error("the last tick that is told")
	}
	if got := Order([]Work{{0, most, 9}, {0, most, 8}}, 4096); slices.Contains(got, 0) || slices.Contains(got, -1) {
		t.Error("ticks of a work that goes on beyond what is told")
	}
}

// anyWorks are some whose numbers may sometimes not be.
func anyWorks(draw func(n int) int) []Work {
	l := make([]Work, draw(9))
	for i := range l {
		l[i] = Work{Release: draw(25), Cost: draw(6), Due: draw(40)}
		switch draw(12) {
		case 0:
			l[i].Release = []int{-1, -40, math.MinInt}[draw(3)]
		case 1:
			l[i].Cost = []int{-1, -40, math.MinInt}[draw(3)]
		case 2:
			l[i].Due = []int{-1, -40, math.MinInt}[draw(3)]
		case 3:
			l[i].Due = []int{most, most + 1, math.MaxInt}[draw(3)]
		}
	}
	return l
}

func TestOfAnyWorks(t *testing.T) {
	draw := drawing(33)
	late := 0
	for range 20000 {
		l := anyWorks(draw)
		compare(t, l)
		if n := len(Late(l)); n > 0 && n < len(l) {
			late++
		}
	}
	if late < 4000 {
		t.Errorf("only of %d rows some are late, and some aren't", late)
	}
}

func TestOfManyWorks(t *testing.T) {
	draw := drawing(330)
	for _, spread := range []int{1, 20, 700, 3000} {
		l := make([]Work, 300)
		for i := range l {
			l[i] = Work{Release: draw(spread), Cost: draw(12), Due: draw(2 * spread)}
		}
		compare(t, l)
	}
}

// TestOfLongWorks: however long they take, who goes on is found as soon as of short ones.
func TestOfLongWorks(t *testing.T) {
	draw := drawing(331)
	l := make([]Work, 50000)
	ticks := 0
	for i := range l {
		l[i] = Work{Release: draw(most), Cost: most - draw(9), Due: draw(most)}
		ticks += l[i].Cost
	}
	l[0].Release = 0
	if got := Run(l); slices.Max(got) != ticks {
		t.Errorf("the last one is done at %d, want %d", slices.Max(got), ticks)
	}
}

// TestNothingIsShared: what is told is new each time.
func TestNothingIsShared(t *testing.T) {
	l := []Work{{0, 3, 2}, {1, 2, 9}, {0, 4, 5}}
	ends, late, order := Run(l), Late(l), Order(l, 12)
	for _, told := range [][]int{Run(l), Late(l), Order(l, 12)} {
		for i := range told {
			told[i] = -7
		}
	}
	if !slices.Equal(Run(l), ends) || !slices.Equal(Late(l), late) || !slices.Equal(Order(l, 12), order) {
		t.Error("what was told is kept")
	}
}

// inTime searches all orders of works whose Costs are given: whether there is one in which all are done by when they are due.
func inTime(l []Work, left []int, now int, known map[string]bool) bool {
	key := string(rune(now))
	open := false
	for i, w := range l {
		key += string(rune(left[i]))
		open = open || left[i] > 0
		if left[i] > 0 && now+left[i] > w.Due || left[i] == 0 && w.Cost == 0 && w.Release > w.Due {
			return false
		}
	}
	if !open {
		return true
	}
	if found, ok := known[key]; ok {
		return found
	}
	found := inTime(l, left, now+1, known) // nobody's tick
	for i, w := range l {
		if !found && left[i] > 0 && w.Release <= now {
			left[i]--
			found = inTime(l, left, now+1, known)
			left[i]++
		}
	}
	known[key] = found
	return found
}

// TestInTimeIfAnyOrderIs: where some order has all works done in time, this one has; where none has, it hasn't.
func TestInTimeIfAnyOrderIs(t *testing.T) {
	draw := drawing(332)
	found, none := 0, 0
	for range 6000 {
		l := make([]Work, 1+draw(5))
		var left []int
		for i := range l {
			release, cost := draw(7), draw(4)
			l[i] = Work{Release: release, Cost: cost, Due: max(release+cost+draw(7)-draw(2), 0)}
			left = append(left, cost)
		}
		want := inTime(l, left, 0, map[string]bool{})
		if got := len(Late(l)) == 0; got != want {
			t.Fatalf("%v: late are %v, though in some order none is: %v", l, Late(l), want)
		}
		if want {
			found++
		} else {
			none++
		}
	}
	if found < 1500 || none < 1500 {
		t.Errorf("of %d rows there is an order, of %d there is none", found, none)
	}
}

// roomy asks of each stretch whether it has room for all works that are released and due in it.
func roomy(l []Work) bool {
	for _, a := range l {
		for _, b := range l {
			sum := 0
			for _, w := range l {
				if w.Release >= a.Release && w.Due <= b.Due {
					sum += w.Cost
				}
			}
			if sum > max(b.Due-a.Release, 0) {
				return false
			}
		}
	}
	return true
}

// TestInTimeIfThereIsRoom: works of any order have room in each stretch, so if none is too full, none of these is late.
func TestInTimeIfThereIsRoom(t *testing.T) {
	draw := drawing(333)
	found, none := 0, 0
	for range 4000 {
		l := make([]Work, 1+draw(12))
		for i := range l {
			release, cost := draw(3000), 1+draw(500)
			l[i] = Work{Release: release, Cost: cost, Due: release + cost + draw(700)}
		}
		want := roomy(l)
		if got := len(Late(l)) == 0; got != want {
			t.Fatalf("%v: late are %v, there is room: %v", l, Late(l), want)
		}
		if want {
			found++
		} else {
			none++
		}
	}
	if found < 1000 || none < 1000 {
		t.Errorf("of %d rows there is room, of %d there isn't", found, none)
	}
}
