package stats

import (
	"math"
	"math/big"
	"slices"
	"testing"

	"signalbox/api"
	"signalbox/play"
)

const top = 1 << 40

// drawing draws numbers from 0 on, below n, always the same ones of a seed.
func drawing(seed uint64) func(n int) int {
	return func(n int) int {
		seed = seed*6364136223846793005 + 1442695040888963407
		return int(seed>>33) % n
	}
}

func TestOf(t *testing.T) {
	for _, c := range []struct {
		l    []int
		want Summary
	}{
		{nil, Summary{}}, {[]int{}, Summary{}},
		{[]int{3, 9, 4}, Summary{3, 3, 9, 16, 4}},
		{[]int{0}, Summary{1, 0, 0, 0, 0}}, {[]int{7}, Summary{1, 7, 7, 7, 7}}, {[]int{-7}, Summary{1, -7, -7, -7, -7}},
		{[]int{9, 4}, Summary{2, 4, 9, 13, 4}}, {[]int{4, 9, 1, 7}, Summary{4, 1, 9, 21, 4}}, {[]int{5, 4, 3, 2, 1}, Summary{5, 1, 5, 15, 3}}, {[]int{6, 5, 4, 3, 2, 1}, Summary{6, 1, 6, 21, 3}},
		{[]int{2, 2, 2, 8}, Summary{4, 2, 8, 14, 2}}, {[]int{8, 8, 2, 8}, Summary{4, 2, 8, 26, 8}}, {[]int{-5, 3, -9, 2}, Summary{4, -9, 3, -9, -5}},
		{[]int{top}, Summary{1, top, top, top, top}}, {[]int{top + 1}, Summary{1, top, top, top, top}}, {[]int{top - 1}, Summary{1, top - 1, top - 1, top - 1, top - 1}},
		{[]int{-top}, Summary{1, -top, -top, -top, -top}}, {[]int{-top - 1}, Summary{1, -top, -top, -top, -top}}, {[]int{1 - top}, Summary{1, 1 - top, 1 - top, 1 - top, 1 - top}},
		{[]int{math.MaxInt, math.MaxInt, math.MaxInt}, Summary{3, top, top, 3 * top, top}}, {[]int{math.MinInt, math.MinInt, 5}, Summary{3, -top, 5, 5 - 2*top, -top}}, {[]int{math.MinInt, math.MaxInt}, Summary{2, -top, top, 0, -top}},
	} {
		was := slices.Clone(c.l)
		if got := Of(c.l); got != c.want {
			t.Errorf("%v: %+v, want %+v", c.l, got, c.want)
		}
		if !slices.Equal(c.l, was) {
			t.Errorf("%v is changed: %v", was, c.l)
		}
	}
}

// counts is what a number counts as.
func counts(n int) int {
	switch {
	case n < -top:
		return -top
	case n > top:
		return top
	}
	return n
}

// place is how many numbers of a row are below one, and how many aren't above it.
func place(l []int, n int) (below, upto int) {
	for _, x := range l {
		if counts(x) < n {
			below++
		}
		if counts(x) <= n {
			upto++
		}
	}
	return below, upto
}

// anyRow is a row of numbers, often the same ones, and sometimes far off.
func anyRow(draw func(n int) int) []int {
	far := []int{math.MinInt, math.MinInt + 1, -top - 1, -top, 1 - top, top - 1, top, top + 1, math.MaxInt - 1, math.MaxInt}
	l := make([]int, draw(20))
	wide := 1 + draw(60)
	for i := range l {
		l[i] = draw(2*wide) - wide
		if draw(9) == 0 {
			l[i] = far[draw(len(far))]
		}
	}
	return l
}

// TestOfAnyNumbers holds summaries against sums of any size, and the middle one against how many numbers are below it.
func TestOfAnyNumbers(t *testing.T) {
	draw := drawing(35)
	for range 20000 {
		l := anyRow(draw)
		s := Of(l)
		if len(l) == 0 {
			if s != (Summary{}) {
				t.Fatalf("%+v", s)
			}
			continue
		}
		sum := new(big.Int)
		for _, n := range l {
			sum.Add(sum, big.NewInt(int64(counts(n))))
			if n := counts(n); n < s.Least || n > s.Greatest {
				t.Fatalf("%v: %+v", l, s)
			}
		}
		if s.Count != len(l) || !sum.IsInt64() || sum.Int64() != int64(s.Sum) {
			t.Fatalf("%v: %+v, the sum is %s", l, s, sum)
		}
		for _, c := range []struct{ n, place int }{{s.Least, 0}, {s.Median, (len(l) - 1) / 2}, {s.Greatest, len(l) - 1}} {
			if below, upto := place(l, c.n); below > c.place || upto <= c.place {
				t.Fatalf("%v: %+v, %d isn't at %d", l, s, c.n, c.place)
			}
		}
	}
}

// reports are of jobs that are done, that failed, that wait, and that aren't done, of tasks 0 and 1.
func reports() []api.Report {
	return []api.Report{
		{Task: 0, Job: 0, Release: 3, Start: 4, End: 12},
		{Task: 1, Job: 0, Release: 4, Start: 4, End: 5},
		{Task: 0, Job: 1, Release: 9, Start: 12, End: 20, Fault: true},
		{Task: 0, Job: 2, Release: 10, Start: 20, End: -1},
		{Task: 0, Job: 3, Release: 15, Start: -1, End: -1},
		{Task: 0, Job: 4, Release: 0, Start: 0, End: 0},
		{Task: 1, Job: 1, Release: 5, Start: 7, End: 9},
		{Task: 0, Job: 5, Release: 16, Start: 17, End: 18},
		{Task: 0, Job: 6, Release: 16, Start: 18, End: -1, Fault: true},
	}
}

func TestResponsesAndWaits(t *testing.T) {
	for _, c := range []struct {
		task             int
		responses, waits []int
	}{
		{0, []int{9, 0, 2}, []int{1, 3, 10, 0, 1, 2}},
		{1, []int{1, 4}, []int{0, 2}},
		{2, nil, nil}, {-1, nil, nil}, {math.MaxInt, nil, nil}, {math.MinInt, nil, nil},
	} {
		l := reports()
		if got := Responses(l, c.task); !slices.Equal(got, c.responses) {
			t.Errorf("responses of %d: %v, want %v", c.task, got, c.responses)
		}
		if got := Waits(l, c.task); !slices.Equal(got, c.waits) {
			t.Errorf("waits of %d: %v, want %v", c.task, got, c.waits)
		}
		if !slices.Equal(l, reports()) {
			t.Error("the reports are changed")
		}
	}
	if l := Responses(nil, 0); len(l) != 0 {
		t.Error(l)
	}
	if l := Waits([]api.Report{}, 0); len(l) != 0 {
		t.Error(l)
	}
}

// TestOddReports: also of reports that no run makes.
func TestOddReports(t *testing.T) {
	for _, c := range []struct {
		name             string
		report           api.Report
		responses, waits []int
	}{
		{"of no task that there may be", api.Report{Task: -5, Release: 1, Start: 2, End: 4}, []int{3}, []int{1}},
		{"done ahead of its release", api.Report{Release: 9, Start: 4, End: 5}, []int{-4}, []int{-5}},
		{"released below 0", api.Report{Release: -9, Start: 4, End: 5}, []int{14}, []int{13}},
		{"done, but not begun", api.Report{Release: 1, Start: -1, End: 5}, []int{4}, nil},
		{"far below 0", api.Report{Release: 1, Start: math.MinInt, End: math.MinInt}, nil, nil},
		{"just below 0", api.Report{Release: 1, Start: -1, End: -1}, nil, nil},
		{"at 0", api.Report{Release: 1}, []int{-1}, []int{-1}},
		{"ever so late", api.Report{Release: 1, Start: math.MaxInt, End: math.MaxInt}, []int{top - 1}, []int{top - 1}},
		{"released ever so early", api.Report{Release: math.MinInt, Start: 7, End: 9}, []int{top + 9}, []int{top + 7}},
		{"released ever so late", api.Report{Release: math.MaxInt, Start: 7, End: 9}, []int{9 - top}, []int{7 - top}},
		{"from end to end", api.Report{Release: math.MinInt, Start: math.MaxInt, End: math.MaxInt}, []int{2 * top}, []int{2 * top}},
	} {
		l := []api.Report{c.report}
		if got := Responses(l, c.report.Task); !slices.Equal(got, c.responses) {
			t.Errorf("%s, response: %v, want %v", c.name, got, c.responses)
		}
		if got := Waits(l, c.report.Task); !slices.Equal(got, c.waits) {
			t.Errorf("%s, wait: %v, want %v", c.name, got, c.waits)
		}
	}
}

// TestOfARun: jobs of which one waits for the other, one fails, and one isn't done.
func TestOfARun(t *testing.T) {
	r, _, e := play.Text("machine 1 1 1 1\ntask 1 1 9 9 0 0 compute 5\ntask 2 2 9 9 3 0 compute 2;push 4\n", "0 release 0\n1 release 0\n1 release 1\n19 release 0\nuntil 20\n")
	if e != api.OK {
		t.Fatal(e)
	}
	for _, c := range []struct{ got, want []int }{
		{Responses(r.Reports, 0), []int{8, 12}}, {Waits(r.Reports, 0), []int{0, 7, 0}},
		{Responses(r.Reports, 1), nil}, {Waits(r.Reports, 1), []int{0}},
	} {
		if !slices.Equal(c.got, c.want) {
			t.Errorf("%v, want %v of %+v", c.got, c.want, r.Reports)
		}
	}
}

func TestRank(t *testing.T) {
	five, four := []int{50, 10, 40, 20, 30}, []int{4, 1, 3, 1}
	for _, c := range []struct {
		l        []int
		part, of int
		want     int
		ok       bool
	}{
		{five, 0, 1, 10, true}, {five, 1, 1, 50, true}, {five, 1, 2, 30, true}, {five, 1, 5, 10, true}, {five, 2, 5, 20, true}, {five, 4, 5, 40, true}, {five, 5, 5, 50, true},
		{five, 20, 100, 10, true}, {five, 21, 100, 20, true}, {five, 39, 100, 20, true}, {five, 40, 100, 20, true}, {five, 41, 100, 30, true}, {five, 80, 100, 40, true}, {five, 81, 100, 50, true}, {five, 100, 100, 50, true}, {five, 1, 100, 10, true},
		{five, 1, 1 << 20, 10, true}, {five, 1 << 20, 1 << 20, 50, true}, {five, 1<<20 - 1, 1 << 20, 50, true}, {five, 838860, 1 << 20, 40, true}, {five, 838861, 1 << 20, 50, true},
		{four, 1, 2, 1, true}, {four, 3, 4, 3, true}, {four, 1, 4, 1, true}, {four, 51, 100, 3, true},
		{[]int{7}, 0, 9, 7, true}, {[]int{7}, 9, 9, 7, true}, {[]int{0}, 1, 2, 0, true}, {[]int{-3, -8}, 1, 2, -8, true},
		{nil, 1, 2, 0, false}, {[]int{}, 0, 1, 0, false},
		{five, -1, 5, 0, false}, {five, 6, 5, 0, false}, {five, math.MaxInt, 5, 0, false}, {five, math.MinInt, 5, 0, false}, {five, 2, 1, 0, false},
		{five, 0, 0, 0, false}, {five, 1, 0, 0, false}, {five, 0, -1, 0, false}, {five, -2, -1, 0, false}, {five, -1, -2, 0, false}, {five, 0, math.MinInt, 0, false},
		{five, 1, 1<<20 + 1, 0, false}, {five, 0, math.MaxInt, 0, false}, {five, math.MaxInt, math.MaxInt, 0, false},
		{[]int{math.MaxInt}, 1, 1, top, true}, {[]int{math.MinInt}, 1, 1, -top, true}, {[]int{top + 1, top - 1}, 1, 2, top - 1, true}, {[]int{-top - 1, 1 - top}, 2, 2, 1 - top, true},
	} {
		was := slices.Clone(c.l)
		if got, ok := Rank(c.l, c.part, c.of); got != c.want || ok != c.ok {
			t.Errorf("%d of %d of %v: %d, %v, want %d, %v", c.part, c.of, c.l, got, ok, c.want, c.ok)
		}
		if !slices.Equal(c.l, was) {
			t.Errorf("%v is changed: %v", was, c.l)
		}
	}
}

// TestRankOfAnyNumbers: with those ahead of it, a part's number makes up that part; without itself, it doesn't.
func TestRankOfAnyNumbers(t *testing.T) {
	draw := drawing(351)
	for range 20000 {
		l := anyRow(draw)
		of := []int{1, 2, 3, 7, 100, 1<<20 - 1, 1 << 20}[draw(7)]
		part := draw(of + 1)
		got, ok := Rank(l, part, of)
		if ok != (len(l) > 0) {
			t.Fatalf("%d of %d of %v: %v", part, of, l, ok)
		}
		below, upto := place(l, got)
		if ok && (upto*of < len(l)*part || below > 0 && below*of >= len(l)*part || part == 0 && below > 0) {
			t.Fatalf("%d of %d of %v: %d", part, of, l, got)
		}
		half, _ := Rank(l, 1, 2)
		if s := Of(l); half != s.Median {
			t.Fatalf("%v: %d, but %+v", l, half, s)
		}
	}
}

func TestBins(t *testing.T) {
	for _, c := range []struct {
		l           []int
		width, many int
		want        []int
	}{
		{nil, 5, 3, []int{0, 0, 0}}, {[]int{}, 1, 1, []int{0}},
		{[]int{0, 4, 5, 9, 10, 14, 15, 99}, 5, 3, []int{2, 2, 4}},
		{[]int{-1, -5, -6, math.MinInt, 0, 1}, 5, 3, []int{6, 0, 0}},
		{[]int{14, 15, 16, math.MaxInt, top, top + 1}, 5, 3, []int{0, 0, 6}}, {[]int{9, 10}, 5, 3, []int{0, 1, 1}},
		{[]int{3, -3, 300}, 7, 1, []int{3}}, {[]int{0, 1, 2, 3, 2}, 1, 3, []int{1, 1, 3}},
		{[]int{1<<20 - 1, 1 << 20, 1<<21 - 1, 1 << 21}, 1 << 20, 4, []int{1, 2, 1, 0}},
		{[]int{1, 2}, 0, 3, nil}, {[]int{1, 2}, -1, 3, nil}, {[]int{1, 2}, math.MinInt, 3, nil}, {[]int{1, 2}, 1<<20 + 1, 3, nil}, {[]int{1, 2}, math.MaxInt, 3, nil},
		{[]int{1, 2}, 5, 0, nil}, {[]int{1, 2}, 5, -1, nil}, {[]int{1, 2}, 5, math.MinInt, nil}, {[]int{1, 2}, 5, 257, nil}, {[]int{1, 2}, 5, math.MaxInt, nil}, {nil, 0, 0, nil},
	} {
		was := slices.Clone(c.l)
		if got := Bins(c.l, c.width, c.many); !slices.Equal(got, c.want) {
			t.Errorf("%v in %d bins of %d: %v, want %v", c.l, c.many, c.width, got, c.want)
		}
		if !slices.Equal(c.l, was) {
			t.Errorf("%v is changed: %v", was, c.l)
		}
	}
	most := Bins([]int{255, 254, 256, 0}, 1, 256)
	if len(most) != 256 || most[0] != 1 || most[253] != 0 || most[254] != 1 || most[255] != 2 {
		t.Error(most)
	}
}

// TestBinsOfAnyNumbers holds each bin against how many numbers are from its beginning up to the next one's.
func TestBinsOfAnyNumbers(t *testing.T) {
	draw := drawing(352)
	for range 20000 {
		l := anyRow(draw)
		width, many := 1+draw(12), 1+draw(9)
		got := Bins(l, width, many)
		if len(got) != many {
			t.Fatalf("%d bins: %v", many, got)
		}
		for i, n := range got {
			want := 0
			for _, x := range l {
				if (i == 0 || x >= i*width) && (i == many-1 || x < (i+1)*width) {
					want++
				}
			}
			if n != want {
				t.Fatalf("%v in %d bins of %d: %v, bin %d has %d", l, many, width, got, i, want)
			}
		}
	}
}
