package edf

import (
	"math/big"
	"slices"
	"testing"

	"signalbox/api"
)

// top is the greatest number, typed.
const top uint64 = api.Unbounded

func whole(n uint64) *big.Int { return new(big.Int).SetUint64(n) }

// plainDemand counts with numbers of any size; what is Unbounded stays so, whatever Deadline is taken away.
func plainDemand(l []Stream, x uint64) uint64 {
	sum := new(big.Int)
	for _, s := range l {
		often := whole(top)
		switch {
		case x < s.Deadline:
			continue
		case s.Period == 0:
		case x == top:
			often.Div(whole(top), whole(s.Period))
			often.Add(often, big.NewInt(1))
		default:
			often.Sub(whole(x), whole(s.Deadline))
			often.Div(often, whole(s.Period))
			often.Add(often, big.NewInt(1))
		}
		sum.Add(sum, often.Mul(often, whole(s.Cost)))
	}
	if sum.IsUint64() {
		return sum.Uint64()
	}
	return top
}

// plainFits tries each number of ticks.
func plainFits(l []Stream, upto uint64) bool {
	for x := uint64(1); x <= upto && x <= 1<<16; x++ {
		if plainDemand(l, x) > x {
			return false
		}
	}
	return true
}

func TestDemand(t *testing.T) {
	for _, c := range []struct {
		l    []Stream
		x    uint64
		want uint64
	}{
		{nil, 0, 0}, {nil, 9, 0}, {[]Stream{}, top, 0},
		{[]Stream{{3, 10, 10}}, 9, 0}, {[]Stream{{3, 10, 10}}, 10, 3}, {[]Stream{{3, 10, 10}}, 19, 3}, {[]Stream{{3, 10, 10}}, 20, 6},
		{[]Stream{{3, 4, 10}}, 3, 0}, {[]Stream{{3, 4, 10}}, 4, 3}, {[]Stream{{3, 4, 10}}, 13, 3}, {[]Stream{{3, 4, 10}}, 14, 6}, {[]Stream{{3, 4, 10}}, 24, 9},
		{[]Stream{{3, 25, 10}}, 24, 0}, {[]Stream{{3, 25, 10}}, 25, 3}, {[]Stream{{3, 25, 10}}, 35, 6}, // a Deadline above the Period
		{[]Stream{{3, 0, 10}}, 0, 3}, {[]Stream{{3, 0, 10}}, 9, 3}, {[]Stream{{3, 0, 10}}, 10, 6},
		{[]Stream{{3, 4, 10}, {2, 5, 7}, {3, 4, 10}}, 14, 16}, {[]Stream{{3, 4, 1}}, 6, 9},
		{[]Stream{{0, 0, 0}}, 5, 0}, {[]Stream{{0, 0, 0}}, top, 0}, {[]Stream{{0, 4, 9}}, top, 0}, // 0 as often as may be is 0
		{[]Stream{{1, 4, 0}}, 3, 0}, {[]Stream{{1, 4, 0}}, 4, top}, {[]Stream{{1, 4, 0}}, 5, top}, {[]Stream{{1, 0, 0}}, 0, top}, {[]Stream{{0, 4, 0}, {2, 3, 9}}, 4, 2},
		{[]Stream{{1, top, 10}}, top - 1, 0}, {[]Stream{{1, top - 1, 10}}, top - 1, 1}, {[]Stream{{3, 5, top}}, top - 1, 3}, {[]Stream{{3, 0, top - 1}}, top - 1, 6},
		{[]Stream{{1, 1, 1}}, top - 1, top - 1}, {[]Stream{{1, 0, 1}}, top - 1, top}, {[]Stream{{1, 0, 2}}, top - 1, 1 << 63},
		{[]Stream{{top, 5, 10}}, 4, 0}, {[]Stream{{top, 5, 10}}, 5, top}, {[]Stream{{top - 1, 5, 10}}, 5, top - 1}, {[]Stream{{top - 1, 5, 10}}, 15, top},
		{[]Stream{{top - 1, 5, 10}, {1, 0, 90}}, 5, top}, {[]Stream{{top - 2, 5, 10}, {1, 0, 90}}, 5, top - 1}, {[]Stream{{1 << 63, 5, 10}, {1 << 63, 5, 10}, {5, 5, 5}}, 5, top},
		{[]Stream{{1, 7, 1}}, top, top}, {[]Stream{{top, 7, 9}}, top, top}, // in an Unbounded number of ticks
	} {
		was := slices.Clone(c.l)
		if got := Demand(c.l, c.x); got != c.want {
			t.Errorf("%v in %d: %d, want %d", c.l, c.x, got, c.want)
		}
		if !slices.Equal(c.l, was) {
			t.Errorf("%v is changed: %v", was, c.l)
		}
	}
}

// edges are numbers around which answers turn.
func edges() []uint64 {
	l := []uint64{0, 1, 2, 3, 4, 7, 10, 255}
	for _, e := range []uint{16, 20, 31, 32, 63} {
		l = append(l, 1<<e-1, 1<<e, 1<<e+1)
	}
	return append(l, top/2, top-2, top-1, top)
}

func TestDemandIsExactOrUnbounded(t *testing.T) {
	draw := drawing(334)
	l := edges()
	any := func() uint64 { return l[draw(len(l))] }
	for range 50000 {
		streams := make([]Stream, draw(4))
		for i := range streams {
			streams[i] = Stream{Cost: any(), Deadline: any(), Period: any()}
		}
		x := any()
		if got, want := Demand(streams, x), plainDemand(streams, x); got != want {
			t.Fatalf("%v in %d: %d, want %d", streams, x, got, want)
		}
	}
}

func TestFits(t *testing.T) {
	for _, c := range []struct {
		l     []Stream
		fails uint64 // the first x at which the demand is above it, 0 for none
	}{
		{nil, 0}, {[]Stream{}, 0}, {[]Stream{{0, 0, 0}}, 0}, {[]Stream{{0, 4, 1}, {0, 0, 9}}, 0},
		{[]Stream{{3, 10, 10}}, 0}, {[]Stream{{3, 3, 10}}, 0}, {[]Stream{{3, 2, 10}}, 2}, {[]Stream{{3, 0, 10}}, 1}, {[]Stream{{1, 0, 10}}, 0}, {[]Stream{{2, 0, 10}}, 1},
		{[]Stream{{1, 1, 1}}, 0}, {[]Stream{{1, 0, 1}}, 1}, {[]Stream{{1, 0, 2}}, 0}, {[]Stream{{2, 1, 2}}, 1}, {[]Stream{{2, 2, 2}}, 0}, {[]Stream{{3, 9, 2}}, 23},
		{[]Stream{{2, 4, 4}, {3, 6, 6}}, 0}, {[]Stream{{2, 4, 4}, {3, 6, 6}, {1, 40, 40}}, 48}, {[]Stream{{2, 3, 8}, {2, 3, 8}}, 3}, {[]Stream{{2, 4, 8}, {2, 4, 8}}, 0}, {[]Stream{{2, 4, 8}, {2, 4, 8}, {4, 8, 8}}, 0}, {[]Stream{{2, 4, 8}, {2, 4, 8}, {4, 7, 8}}, 7},
		{[]Stream{{1, 5, 0}}, 5}, {[]Stream{{1, 0, 0}}, 1}, {[]Stream{{1, 1 << 16, 0}}, 1 << 16}, {[]Stream{{1, 1<<16 + 1, 0}}, 0}, {[]Stream{{1, top, 0}}, 0},
		{[]Stream{{1 << 16, 1 << 16, 1 << 16}}, 0}, {[]Stream{{1<<16 + 1, 1 << 16, 1 << 16}}, 1 << 16}, {[]Stream{{top, 1 << 16, 1}}, 1 << 16}, {[]Stream{{top, 1<<16 + 1, 1}}, 0}, {[]Stream{{top, 3, top}}, 3},
		{[]Stream{{5, 5, top}, {5, 10, top - 4}}, 0}, {[]Stream{{5, 5, top}, {5, 9, top - 9}}, 9}, // the next ones never come
		{[]Stream{{1<<15 + 1, 1 << 15, 1 << 16}, {1, 1 << 16, 9}}, 1 << 15}, {[]Stream{{1 << 15, 1 << 15, 1 << 15}, {1, 1 << 16, top}}, 1 << 16},
		{[]Stream{{1, 1, 2}, {1, 1, 3}}, 1}, {[]Stream{{1, 2, 2}, {1, 3, 3}, {1, 6, 6}}, 0}, {[]Stream{{1, 2, 2}, {1, 3, 3}, {1, 5, 6}}, 0}, {[]Stream{{1, 2, 2}, {1, 3, 3}, {1, 3, 6}}, 0}, {[]Stream{{1, 2, 2}, {1, 3, 3}, {1, 1, 6}}, 0}, {[]Stream{{1, 2, 2}, {1, 3, 3}, {1, 1, 5}}, 6},
	} {
		was := slices.Clone(c.l)
		for _, upto := range []uint64{0, 1, 2, 3, 5, 6, 7, 8, 9, 16, 17, 22, 23, 24, 47, 48, 49, 5000, 1<<15 - 1, 1 << 15, 1<<16 - 1, 1 << 16, 1<<16 + 1, 1 << 40, top - 1, top} {
			want := c.fails == 0 || upto < c.fails
			if got := Fits(c.l, upto); got != want {
				t.Errorf("%v up to %d: %v", c.l, upto, got)
			}
		}
		if !slices.Equal(c.l, was) {
			t.Errorf("%v is changed: %v", was, c.l)
		}
	}
}

// anyStreams are some that often fit, and sometimes have numbers that are far off.
func anyStreams(draw func(n int) int) []Stream {
	l := make([]Stream, draw(5))
	for i := range l {
		l[i] = Stream{Cost: uint64(draw(5)), Deadline: uint64(draw(30)), Period: uint64(1 + draw(30))}
		if draw(25) == 0 {
			l[i].Period = []uint64{0, 1 << 40, top - 3, top}[draw(4)]
		}
		if draw(40) == 0 {
			l[i].Deadline = []uint64{1 << 16, 1 << 40, top}[draw(3)]
		}
		if draw(60) == 0 {
			l[i].Cost = []uint64{1 << 40, top}[draw(2)]
		}
	}
	return l
}

func TestFitsOfAnyStreams(t *testing.T) {
	draw := drawing(335)
	fits, not := 0, 0
	for range 8000 {
		l := anyStreams(draw)
		upto := uint64(draw(200))
		got, want := Fits(l, upto), plainFits(l, upto)
		if got != want {
			t.Fatalf("%v up to %d: %v", l, upto, got)
		}
		if got && len(l) > 1 {
			fits++
		} else if !got {
			not++
		}
	}
	if fits < 1000 || not < 1000 {
		t.Errorf("%d fit, %d don't", fits, not)
	}
}

// TestFitsOfManyStreams: of those that want nothing, or nothing yet, there may be very many.
func TestFitsOfManyStreams(t *testing.T) {
	var l []Stream
	for i := range uint64(100000) {
		l = append(l, Stream{0, i % 50, i % 3}, Stream{top, 1<<16 + 1 + i, 0})
	}
	l = append(l, Stream{1, 1, 1})
	if !Fits(l, top) {
		t.Error("one who wants each tick, and has it")
	}
	if Fits(append(l, Stream{1, 1 << 16, 1 << 16}), top) {
		t.Error("one more, in the last tick")
	}
}

// come are the works of streams that are released and due within so many ticks.
func come(l []Stream, ticks uint64) []Work {
	var works []Work
	for _, s := range l {
		for release := uint64(0); release+s.Deadline <= ticks; release += s.Period {
			works = append(works, Work{Release: int(release), Cost: int(s.Cost), Due: int(release + s.Deadline)})
		}
	}
	return works
}

// TestStreamsThatFitAreInTime: the works that streams tell of, run, are done in time if the streams fit, and are late if they don't, as all come at 0.
func TestStreamsThatFitAreInTime(t *testing.T) {
	draw := drawing(336)
	fits, not := 0, 0
	for range 4000 {
		l := make([]Stream, 1+draw(4))
		for i := range l {
			l[i] = Stream{Cost: uint64(1 + draw(4)), Deadline: uint64(1 + draw(20)), Period: uint64(1 + draw(20))}
		}
		const ticks = 150
		got := Fits(l, ticks)
		if late := Late(come(l, ticks)); got != (len(late) == 0) {
			t.Fatalf("%v fit: %v; late are %v of %v", l, got, late, come(l, ticks))
		}
		if got {
			fits++
		} else {
			not++
		}
	}
	if fits < 500 || not < 500 {
		t.Errorf("%d fit, %d don't", fits, not)
	}
}
