package sat

import (
	"math"
	"math/big"
	"testing"

	"signalbox/api"
)

// top is the greatest number, typed.
const top uint64 = api.Unbounded

// edges are numbers around which answers turn.
func edges() []uint64 {
	l := []uint64{0, 1, 2, 3, 5, 7, 10, 255, 1000003, 6700417, 641}
	for _, e := range []uint{16, 31, 32, 33, 62, 63} {
		l = append(l, 1<<e-1, 1<<e, 1<<e+1)
	}
	return append(l, top/3, top/2, top/2+1, top-2, top-1, top)
}

// clamped is a number of any size by the document's rule: what is Unbounded or more is that.
func clamped(n *big.Int) uint64 {
	if n.IsUint64() {
		return n.Uint64()
	}
	return top
}

func whole(n uint64) *big.Int { return new(big.Int).SetUint64(n) }

func TestAddIsExactOrUnbounded(t *testing.T) {
	for _, a := range edges() {
		for _, b := range edges() {
			want := clamped(new(big.Int).Add(whole(a), whole(b)))
			if got := Add(a, b); got != want {
				t.Errorf("Add(%d, %d) = %d, want %d", a, b, got, want)
			}
		}
	}
}

func TestMulIsExactOrUnbounded(t *testing.T) {
	for _, a := range edges() {
		for _, b := range edges() {
			want := clamped(new(big.Int).Mul(whole(a), whole(b)))
			if got := Mul(a, b); got != want {
				t.Errorf("Mul(%d, %d) = %d, want %d", a, b, got, want)
			}
		}
	}
	if Mul(0, top) != 0 || Mul(top, 0) != 0 {
		t.Error("0 times anything is 0")
	}
	if Mul(3, top/3) != top || Mul(3, top/3-1) != top-3 || Mul(3, top/3+1) != top {
		t.Error("products at the bound")
	}
}

func TestSub(t *testing.T) {
	for _, a := range edges() {
		for _, b := range edges() {
			var want uint64
			switch {
			case a == top:
				want = top
			case b < a:
				want = a - b
			}
			if got := Sub(a, b); got != want {
				t.Errorf("Sub(%d, %d) = %d, want %d", a, b, got, want)
			}
		}
	}
}

func TestCeil(t *testing.T) {
	for _, a := range edges() {
		for _, b := range edges() {
			var want uint64
			switch {
			case a == 0:
			case a == top || b == 0:
				want = top
			default:
				q, r := new(big.Int).DivMod(whole(a), whole(b), new(big.Int))
				want = q.Uint64() + uint64(r.Sign())
			}
			if got := Ceil(a, b); got != want {
				t.Errorf("Ceil(%d, %d) = %d, want %d", a, b, got, want)
			}
		}
	}
	for _, c := range []struct{ a, b, want uint64 }{
		{7, 2, 4}, {8, 2, 4}, {1, 9, 1}, {9, 9, 1}, {10, 9, 2}, {0, 0, 0}, {0, 5, 0}, {0, top, 0}, {5, 0, top},
		{top, 1, top}, {top, 0, top}, {top, top, top}, {top - 1, 1, top - 1}, {top - 1, top, 1}, {top - 1, top - 1, 1}, {5, top, 1},
	} {
		if got := Ceil(c.a, c.b); got != c.want {
			t.Errorf("Ceil(%d, %d) = %d, want %d", c.a, c.b, got, c.want)
		}
	}
}

func TestSum(t *testing.T) {
	for _, c := range []struct {
		l    []uint64
		want uint64
	}{
		{nil, 0}, {[]uint64{}, 0}, {[]uint64{0}, 0}, {[]uint64{7}, 7}, {[]uint64{1, 2, 3, 4}, 10},
		{[]uint64{top}, top}, {[]uint64{top, 0, 0}, top}, {[]uint64{top - 3, 1, 1}, top - 1}, {[]uint64{top - 3, 1, 2}, top},
		{[]uint64{1 << 63, 1 << 63, 5}, top}, {[]uint64{5, top, 5, top, 5}, top},
	} {
		before := append([]uint64(nil), c.l...)
		if got := Sum(c.l...); got != c.want {
			t.Errorf("Sum(%v) = %d, want %d", before, got, c.want)
		}
		for i, n := range before {
			if c.l[i] != n {
				t.Errorf("Sum changed what was handed in: %v, was %v", c.l, before)
			}
		}
	}
	if Sum() != 0 || Sum(3, 4) != 7 {
		t.Error("numbers handed one by one")
	}
}

func TestOf(t *testing.T) {
	for _, c := range []struct {
		n    int
		want uint64
	}{
		{0, 0}, {1, 1}, {12345, 12345}, {math.MaxInt, math.MaxInt}, {-1, 0}, {-99, 0}, {math.MinInt, 0},
	} {
		if got := Of(c.n); got != c.want {
			t.Errorf("Of(%d) = %d, want %d", c.n, got, c.want)
		}
	}
}

// upTo is a step that goes up by so many, and stops at a number.
func upTo(by, stop uint64) func(uint64) uint64 {
	return func(x uint64) uint64 { return min(Add(x, by), stop) }
}

func TestLeast(t *testing.T) {
	same := func(x uint64) uint64 { return x }
	down := func(x uint64) uint64 { return x / 2 }
	upThenDown := func(x uint64) uint64 { // 0, 4, 6, 2: what is ahead of the 2 is told
		return map[uint64]uint64{0: 4, 4: 6, 6: 2}[x]
	}
	for _, c := range []struct {
		name       string
		step       func(uint64) uint64
		from, most uint64
		want       uint64
		found      bool
	}{
		{"up to a stop", upTo(3, 10), 1, 20, 10, true},
		{"the stop is the most", upTo(3, 10), 1, 10, 10, true},
		{"the stop is above the most", upTo(3, 10), 1, 9, top, false},
		{"a number on the way is above the most", upTo(7, 10), 1, 7, top, false},
		{"still at once", same, 5, 9, 5, true},
		{"still at the most", same, 9, 9, 9, true},
		{"from above the most", same, 10, 9, top, false},
		{"from above the most, then down", down, 10, 9, top, false},
		{"down at once", down, 8, 9, 8, true},
		{"from 0", same, 0, 0, 0, true},
		{"up, then down", upThenDown, 0, 9, 6, true},
		{"no bound", upTo(1<<62, top), 1, top, top, true},
		{"just below no bound", upTo(1<<62, top), 1, top - 1, top, false},
	} {
		if x, ok := Least(c.step, c.from, c.most); x != c.want || ok != c.found {
			t.Errorf("%s: %d, %v; want %d, %v", c.name, x, ok, c.want, c.found)
		}
	}
}

func TestLeastAsksEachNumberOnce(t *testing.T) {
	var asked []uint64
	step := func(x uint64) uint64 {
		asked = append(asked, x)
		return x + 4
	}
	if x, ok := Least(step, 2, 11); ok || x != top {
		t.Error(x, ok)
	}
	if len(asked) != 3 || asked[0] != 2 || asked[1] != 6 || asked[2] != 10 {
		t.Errorf("asked %v, want 2, 6, 10: nothing above the most is asked", asked)
	}
	asked = nil
	if Least(step, 12, 11); asked != nil {
		t.Errorf("asked %v of a beginning above the most", asked)
	}
}

func TestLeastStopsBehindManySteps(t *testing.T) {
	const steps = 1 << 20
	if x, ok := Least(upTo(1, steps-1), 0, top); !ok || x != steps-1 {
		t.Errorf("the last step that counts: %d, %v", x, ok)
	}
	if x, ok := Least(upTo(1, steps), 0, top); ok || x != top {
		t.Errorf("a step more: %d, %v", x, ok)
	}
	count := 0
	x, ok := Least(func(x uint64) uint64 { count++; return x + 1 }, 5, top)
	if ok || x != top || count != steps {
		t.Errorf("without an end: %d, %v, %d steps", x, ok, count)
	}
}

func TestLeastOfWrongSteps(t *testing.T) {
	if x, ok := Least(nil, 1, 9); ok || x != top {
		t.Errorf("no step: %d, %v", x, ok)
	}
	if x, ok := Least(nil, 10, 9); ok || x != top {
		t.Errorf("no step, from above the most: %d, %v", x, ok)
	}
	late := func(x uint64) uint64 {
		if x == 3 {
			panic("no further")
		}
		return x + 1
	}
	if x, ok := Least(late, 1, 9); ok || x != top {
		t.Errorf("a step that panics: %d, %v", x, ok)
	}
}
