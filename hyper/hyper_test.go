package hyper

import (
	"math/big"
	"slices"
	"testing"

	"signalbox/api"
)

// top is the greatest number, typed.
const top uint64 = api.Unbounded

// drawing is a row of numbers below n that look drawn.
func drawing(seed uint32) func(n int) int {
	return func(n int) int {
		seed = seed*1664525 + 1013904223
		return int(seed>>8) % n
	}
}

// edges are numbers around which answers turn: 3, 5, 17, 257, 641, 65537 and 6700417 make up the greatest one, 1 less than 2^32 and 1 more make it, too.
func edges() []uint64 {
	l := []uint64{0, 1, 2, 3, 4, 5, 6, 10, 17, 257, 641, 6700417, 1000003}
	for _, e := range []uint{16, 20, 31, 32, 33, 62, 63} {
		l = append(l, 1<<e-1, 1<<e, 1<<e+1)
	}
	return append(l, top/5, top/3, top/3+1, top/2, top/2+1, top-2, top-1, top)
}

// shares are fractions of all edges.
func shares() []Share {
	var l []Share
	for _, over := range edges() {
		for _, under := range edges() {
			l = append(l, Share{over, under})
		}
	}
	return l
}

func whole(n uint64) *big.Int { return new(big.Int).SetUint64(n) }

// clamped is a number of any size by layer 1's rule: what is Unbounded or more is that.
func clamped(n *big.Int) uint64 {
	if n.IsUint64() {
		return n.Uint64()
	}
	return top
}

// plainLcm is by numbers of any size.
func plainLcm(a, b uint64) uint64 {
	if a == 0 || b == 0 {
		return 0
	}
	product := new(big.Int).Mul(whole(a), whole(b))
	return clamped(product.Div(product, new(big.Int).GCD(nil, nil, whole(a), whole(b))))
}

// plainSimple is by fractions of any size.
func plainSimple(s Share) Share {
	if s.Under == 0 {
		return Share{top, 0}
	}
	f := new(big.Rat).SetFrac(whole(s.Over), whole(s.Under))
	return Share{f.Num().Uint64(), f.Denom().Uint64()}
}

// plainLess is by fractions of any size.
func plainLess(a, b Share) bool {
	if a.Under == 0 || b.Under == 0 {
		return a.Under != 0
	}
	return new(big.Rat).SetFrac(whole(a.Over), whole(a.Under)).Cmp(new(big.Rat).SetFrac(whole(b.Over), whole(b.Under))) < 0
}

// plainAdd reckons with numbers of any size, and asks each one whether it is below Unbounded.
func plainAdd(a, b Share) Share {
	if a.Under == 0 || b.Under == 0 {
		return Share{top, 0}
	}
	a, b = plainSimple(a), plainSimple(b)
	one, other := new(big.Int).Mul(whole(a.Over), whole(b.Under)), new(big.Int).Mul(whole(b.Over), whole(a.Under))
	under := new(big.Int).Mul(whole(a.Under), whole(b.Under))
	over := new(big.Int).Add(one, other)
	for _, n := range []*big.Int{one, other, over, under} {
		if clamped(n) == top {
			return Share{top, 0}
		}
	}
	return plainSimple(Share{over.Uint64(), under.Uint64()})
}

func TestGcd(t *testing.T) {
	for _, c := range []struct{ a, b, want uint64 }{
		{0, 0, 0}, {0, 7, 7}, {7, 0, 7}, {0, top, top}, {top, 0, top}, {1, 1, 1}, {1, top, 1}, {top, top, top},
		{4, 6, 2}, {6, 4, 2}, {12, 18, 6}, {7, 13, 1}, {5, 10, 5}, {10, 5, 5},
		{top, 3, 3}, {top, 1<<32 + 1, 1<<32 + 1}, {top, 2, 1}, {top, top - 1, 1}, {1 << 63, 1 << 40, 1 << 40}, {1 << 63, 3 << 62, 1 << 62},
		{12200160415121876738, 7540113804746346429, 1}, // of neighbours in Fibonacci's row, which take the most steps
	} {
		if got := Gcd(c.a, c.b); got != c.want {
			t.Errorf("Gcd(%d, %d) = %d, want %d", c.a, c.b, got, c.want)
		}
	}
	for _, a := range edges() {
		for _, b := range edges() {
			want := new(big.Int).GCD(nil, nil, whole(a), whole(b)).Uint64()
			if got := Gcd(a, b); got != want {
				t.Errorf("Gcd(%d, %d) = %d, want %d", a, b, got, want)
			}
		}
	}
}

func TestLcm(t *testing.T) {
	for _, c := range []struct{ a, b, want uint64 }{
		{4, 6, 12}, // the chapter's example
		{0, 0, 0}, {0, 7, 0}, {7, 0, 0}, {0, top, 0}, {top, 0, 0}, {1, 1, 1}, {1, 7, 7}, {7, 7, 7}, {7, 13, 91}, {5, 10, 10},
		{1 << 63, 1 << 63, 1 << 63}, {1 << 63, 1 << 40, 1 << 63}, // a product that is too great, of numbers whose multiple isn't
		{top - 1, top - 1, top - 1}, {top - 1, 2, top - 1}, {top - 1, 1, top - 1}, {(top - 1) / 2, 2, top - 1},
		{1 << 63, 3, top}, {1 << 32, 1 << 32, 1 << 32}, {1 << 32, 1<<32 + 1, top}, {1<<32 - 1, 1 << 32, (1<<32 - 1) << 32},
		{1<<32 - 1, 1<<32 + 1, top}, // which is just that
		{top, 1, top}, {top, 2, top}, {top, 3, top}, {top, top, top}, {top, top - 1, top},
	} {
		if got := Lcm(c.a, c.b); got != c.want {
			t.Errorf("Lcm(%d, %d) = %d, want %d", c.a, c.b, got, c.want)
		}
		if got := Lcm(c.b, c.a); got != c.want {
			t.Errorf("Lcm(%d, %d) = %d, want %d", c.b, c.a, got, c.want)
		}
	}
	for _, a := range edges() {
		for _, b := range edges() {
			if got, want := Lcm(a, b), plainLcm(a, b); got != want {
				t.Errorf("Lcm(%d, %d) = %d, want %d", a, b, got, want)
			}
		}
	}
}

func TestAll(t *testing.T) {
	for _, c := range []struct {
		l    []uint64
		want uint64
	}{
		{nil, 1}, {[]uint64{}, 1}, {[]uint64{0}, 0}, {[]uint64{1}, 1}, {[]uint64{7}, 7}, {[]uint64{top}, top}, {[]uint64{top - 1}, top - 1},
		{[]uint64{4, 6}, 12}, {[]uint64{4, 6, 10}, 60}, {[]uint64{10, 6, 4}, 60}, {[]uint64{7, 7, 7}, 7}, {[]uint64{2, 3, 5, 7, 11, 13}, 30030},
		{[]uint64{4, 0, 6}, 0}, {[]uint64{0, top}, 0}, {[]uint64{top, 0}, 0}, {[]uint64{0, 0}, 0},
		{[]uint64{top, 2}, top}, {[]uint64{top, 3, 5}, top}, {[]uint64{2, top, 1}, top},
		{[]uint64{1 << 63, 3}, top}, {[]uint64{1 << 63, 3, 1}, top}, {[]uint64{1 << 63, 3, 5, 7}, top}, {[]uint64{3, 1 << 63, 2}, top},
		{[]uint64{1 << 63, 3, 0}, 0}, {[]uint64{0, 1 << 63, 3}, 0}, {[]uint64{1 << 63, 3, 0, 5}, 0}, {[]uint64{1 << 63, 0, 3}, 0},
		{[]uint64{1 << 63, 1 << 20, 1 << 63, 2}, 1 << 63},
	} {
		was := slices.Clone(c.l)
		if got := All(c.l); got != c.want {
			t.Errorf("All(%v) = %d, want %d", was, got, c.want)
		}
		if !slices.Equal(c.l, was) {
			t.Errorf("%v is changed: %v", was, c.l)
		}
	}
}

// TestAllIsTheLeast: each number up to the least common multiple of small ones is tried.
func TestAllIsTheLeast(t *testing.T) {
	draw := drawing(32)
	for range 500 {
		l := make([]uint64, 1+draw(4))
		for i := range l {
			l[i] = uint64(1 + draw(20))
		}
		want := uint64(1)
		for slices.ContainsFunc(l, func(n uint64) bool { return want%n != 0 }) {
			want++
		}
		if got := All(l); got != want {
			t.Fatalf("All(%v) = %d, want %d", l, got, want)
		}
	}
}

func TestLess(t *testing.T) {
	for _, c := range []struct {
		a, b         Share
		less, greats bool
	}{
		{Share{1, 2}, Share{2, 3}, true, false}, {Share{1, 2}, Share{2, 4}, false, false}, {Share{0, 5}, Share{0, 9}, false, false},
		{Share{0, 1}, Share{1, top}, true, false}, {Share{5, 1}, Share{6, 1}, true, false},
		{Share{0, 0}, Share{0, 0}, false, false}, {Share{3, 0}, Share{7, 0}, false, false}, {Share{0, 0}, Share{top, 0}, false, false}, // all of an Under of 0 are alike
		{Share{top, 1}, Share{0, 0}, true, false}, {Share{0, 1}, Share{0, 0}, true, false}, {Share{top, 1}, Share{1, 0}, true, false},
		// products of which the lower words alone, or the upper ones alone, would tell otherwise
		{Share{1 << 32, 1}, Share{1, 1 << 32}, false, true}, {Share{1 << 63, 1}, Share{1<<63 + 1, 1}, true, false}, {Share{1 << 32, 3}, Share{1 << 33, 5}, true, false},
		{Share{top - 1, top}, Share{top, top}, true, false}, {Share{top - 2, top - 1}, Share{top - 1, top}, true, false}, {Share{top, top - 1}, Share{top - 1, top - 2}, true, false},
		{Share{top, top}, Share{1, 1}, false, false}, {Share{top, 3}, Share{top / 3, 1}, false, false},
		{Share{1 << 63, 1<<63 + 1}, Share{1<<63 + 1, 1<<63 + 2}, true, false},
	} {
		if less, greats := Less(c.a, c.b), Less(c.b, c.a); less != c.less || greats != c.greats {
			t.Errorf("%v, %v: %v, and the other way %v", c.a, c.b, less, greats)
		}
	}
	l := shares()
	for i, a := range l {
		for j := i % 5; j < len(l); j += 5 {
			b := l[j]
			if got, want := Less(a, b), plainLess(a, b); got != want {
				t.Fatalf("Less(%v, %v) = %v", a, b, got)
			}
		}
	}
}

func TestSimple(t *testing.T) {
	for _, c := range []struct{ s, want Share }{
		{Share{0, 0}, Share{top, 0}}, {Share{5, 0}, Share{top, 0}}, {Share{top, 0}, Share{top, 0}},
		{Share{0, 1}, Share{0, 1}}, {Share{0, 9}, Share{0, 1}}, {Share{0, top}, Share{0, 1}},
		{Share{6, 4}, Share{3, 2}}, {Share{3, 2}, Share{3, 2}}, {Share{7, 7}, Share{1, 1}}, {Share{9, 3}, Share{3, 1}},
		{Share{top, 1}, Share{top, 1}}, {Share{top, top}, Share{1, 1}}, {Share{1, top}, Share{1, top}}, {Share{top, 3}, Share{top / 3, 1}},
	} {
		if got := Simple(c.s); got != c.want {
			t.Errorf("Simple(%v) = %v, want %v", c.s, got, c.want)
		}
	}
	for _, s := range shares() {
		got := Simple(s)
		if got != plainSimple(s) {
			t.Errorf("Simple(%v) = %v, want %v", s, got, plainSimple(s))
		}
		if Simple(got) != got || Less(got, s) || Less(s, got) {
			t.Errorf("%v isn't %v in its lowest terms", got, s)
		}
	}
}

func TestAdd(t *testing.T) {
	none := Share{top, 0}
	for _, c := range []struct{ a, b, want Share }{
		{Share{1, 2}, Share{1, 3}, Share{5, 6}}, {Share{1, 6}, Share{1, 3}, Share{1, 2}}, {Share{1, 2}, Share{1, 2}, Share{1, 1}}, {Share{2, 4}, Share{3, 6}, Share{1, 1}},
		{Share{0, 5}, Share{0, 9}, Share{0, 1}}, {Share{0, 5}, Share{6, 4}, Share{3, 2}}, {Share{3, 1}, Share{4, 1}, Share{7, 1}},
		{Share{0, 0}, Share{0, 0}, none}, {Share{1, 0}, Share{1, 2}, none}, {Share{0, 0}, Share{0, 1}, none}, {Share{top, 0}, Share{top, 0}, none}, {Share{top, 0}, Share{0, top}, none},
		// numbers up to one below Unbounded, and that one
		{Share{top - 2, 1}, Share{1, 1}, Share{top - 1, 1}}, {Share{top - 1, 1}, Share{1, 1}, none}, {Share{top - 1, 1}, Share{0, 7}, Share{top - 1, 1}},
		{Share{top, 1}, Share{0, 1}, none}, {Share{top, 1}, Share{top, 1}, none}, {Share{1 << 63, 1}, Share{1 << 63, 1}, none}, {Share{1 << 63, 1}, Share{1<<63 - 2, 1}, Share{top - 1, 1}},
		{Share{0, 1}, Share{1, top - 1}, Share{1, top - 1}}, {Share{0, 1}, Share{1, top}, none}, {Share{1, 1<<32 - 1}, Share{0, 1<<32 + 1}, Share{1, 1<<32 - 1}},
		{Share{1, 1<<32 - 1}, Share{1, 1<<32 + 1}, none}, {Share{1, 1 << 32}, Share{1, 1 << 32}, none}, {Share{1, 1 << 32}, Share{1, 1<<32 - 1}, Share{1<<33 - 1, (1<<32 - 1) << 32}},
		// in lowest terms they aren't too great, otherwise they would be
		{Share{1 << 40, 1 << 41}, Share{1 << 50, 1 << 51}, Share{1, 1}}, {Share{top, top}, Share{top, top}, Share{2, 1}}, {Share{top, 3}, Share{0, top}, Share{top / 3, 1}}, {Share{0, top}, Share{0, top}, Share{0, 1}},
		// the sum isn't too great, the numbers on the way to it are
		{Share{1, 1 << 40}, Share{1, 1 << 40}, none}, {Share{1, 1 << 62}, Share{3, 1 << 62}, none},
	} {
		if got := Add(c.a, c.b); got != c.want {
			t.Errorf("Add(%v, %v) = %v, want %v", c.a, c.b, got, c.want)
		}
		if got := Add(c.b, c.a); got != c.want {
			t.Errorf("Add(%v, %v) = %v, want %v", c.b, c.a, got, c.want)
		}
	}
	l := shares()
	draw := drawing(321)
	sums := 0
	for range 200000 {
		a, b := l[draw(len(l))], l[draw(len(l))]
		got, want := Add(a, b), plainAdd(a, b)
		if got != want {
			t.Fatalf("Add(%v, %v) = %v, want %v", a, b, got, want)
		}
		if got.Under > 1 {
			sums++
		}
	}
	if sums < 2000 {
		t.Errorf("only %d sums say much", sums)
	}
}

// TestAddOfSmallShares: each sum of these is exact.
func TestAddOfSmallShares(t *testing.T) {
	for a := range uint64(12) {
		for b := range uint64(12) {
			for c := range uint64(12) {
				for d := range uint64(12) {
					x, y := Share{a, b + 1}, Share{c, d + 1}
					if got, want := Add(x, y), plainSimple(Share{x.Over*y.Under + y.Over*x.Under, x.Under * y.Under}); got != want {
						t.Fatalf("Add(%v, %v) = %v, want %v", x, y, got, want)
					}
				}
			}
		}
	}
}
