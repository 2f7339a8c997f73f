package flags

import (
	"math"
	"testing"

	"signalbox/api"
)

// model are groups as plain as can be: each flag by itself.
type model [][8]bool

func (m model) has(i int) bool { return i >= 0 && i < len(m) }

func (m model) value(i int) (int, api.Errno) {
	if !m.has(i) {
		return 0, api.ErrNone
	}
	n := 0
	for flag, up := range m[i] {
		if up {
			n += powers[flag]
		}
	}
	return n, api.OK
}

// powers are the flags' numbers.
var powers = [8]int{1, 2, 4, 8, 16, 32, 64, 128}

// asked asks whether a flag is one of a mask's.
func asked(mask, flag int) bool { return mask&powers[flag] != 0 }

func (m model) put(i, mask int, up bool) (int, api.Errno) {
	was, e := m.value(i)
	if e == api.OK {
		for flag := range powers {
			if asked(mask, flag) {
				m[i][flag] = up
			}
		}
	}
	return was, e
}

func (m model) test(i, mask int, all bool) (bool, api.Errno) {
	if !m.has(i) {
		return false, api.ErrNone
	}
	ups, downs := 0, 0
	for flag := range powers {
		switch {
		case !asked(mask, flag):
		case m[i][flag]:
			ups++
		default:
			downs++
		}
	}
	if all {
		return downs == 0, api.OK
	}
	return ups > 0, api.OK
}

// made are so many groups, and their model.
func made(count int) (*Groups, model) { return New(count), make(model, count) }

// outside are numbers that none of so many groups has.
func outside(count int) []int {
	return []int{math.MinInt, -1 << 32, -2, -1, count, count + 1, 1 << 32, math.MaxInt}
}

// masks are some: none, one flag, several, all, and with bits that don't count.
var masks = [...]int{0, 1, 2, 128, 5, 0x5a, 254, 255, 256, 257, 0x1ff, 0xff00, 1 << 40, 1<<40 + 6, -1, -2, -256, math.MinInt, math.MinInt + 3, math.MaxInt, math.MaxInt - 7}

// compare asks groups all that leaves them as they are.
func compare(t *testing.T, g *Groups, m model) {
	t.Helper()
	if g.Len() != len(m) {
		t.Fatalf("Len %d, want %d", g.Len(), len(m))
	}
	for i := range m {
		compareValue(t, g, m, i)
	}
	for _, i := range outside(len(m)) {
		compareValue(t, g, m, i)
	}
}

func compareValue(t *testing.T, g *Groups, m model, i int) {
	t.Helper()
	want, wantError := m.value(i)
	if v, e := g.Value(i); v != want || e != wantError {
		t.Fatalf("Value(%d): %d, %d, want %d, %d", i, v, e, want, wantError)
	}
}

func set(t *testing.T, g *Groups, m model, i, mask int) {
	t.Helper()
	want, wantError := m.put(i, mask, true)
	if v, e := g.Set(i, mask); v != want || e != wantError {
		t.Fatalf("Set(%d, %d): %d, %d, want %d, %d", i, mask, v, e, want, wantError)
	}
}

func down(t *testing.T, g *Groups, m model, i, mask int) {
	t.Helper()
	want, wantError := m.put(i, mask, false)
	if v, e := g.Clear(i, mask); v != want || e != wantError {
		t.Fatalf("Clear(%d, %d): %d, %d, want %d, %d", i, mask, v, e, want, wantError)
	}
}

func test(t *testing.T, g *Groups, m model, i, mask int) {
	t.Helper()
	for _, all := range []bool{false, true} {
		want, wantError := m.test(i, mask, all)
		if up, e := g.Test(i, mask, all); up != want || e != wantError {
			t.Fatalf("Test(%d, %d, %t): %t, %d, want %t, %d", i, mask, all, up, e, want, wantError)
		}
	}
}

func TestExample(t *testing.T) {
	g := New(1)
	if was, e := g.Set(0, 3); was != 0 || e != api.OK {
		t.Error(was, e)
	}
	if was, e := g.Clear(0, 1); was != 3 || e != api.OK {
		t.Error(was, e)
	}
	if is, e := g.Value(0); is != 2 || e != api.OK {
		t.Error(is, e)
	}
}

func TestHowMany(t *testing.T) {
	for n, want := range map[int]int{
		0: 0, 1: 1, 2: 2, 3: 3, 4: 4,
		-1: 0, -4: 0, math.MinInt: 0,
		5: 4, 8: 4, 257: 4, 1 << 32: 4, 1<<32 + 1: 4, math.MaxInt: 4,
	} {
		g, m := New(n), make(model, want)
		compare(t, g, m)
		for i := range m {
			set(t, g, m, i, 16+i)
		}
		compare(t, g, m)
	}
}

// TestAllMasks holds each mask against each group that may be.
func TestAllMasks(t *testing.T) {
	for ups := range 256 {
		for mask := range 256 {
			g, m := made(1)
			set(t, g, m, 0, ups)
			test(t, g, m, 0, mask)
			compare(t, g, m) // a question changes nothing
			set(t, g, m, 0, mask)
			compare(t, g, m)
			set(t, g, m, 0, mask) // a second time, nothing changes
			compare(t, g, m)

			g, m = made(1)
			set(t, g, m, 0, ups)
			down(t, g, m, 0, mask)
			compare(t, g, m)
			down(t, g, m, 0, mask)
			compare(t, g, m)
		}
	}
}

// TestTestOfNothing: of no flag, all are up, and none is.
func TestTestOfNothing(t *testing.T) {
	for _, ups := range []int{0, 7, 255} {
		for _, mask := range []int{0, 256, -256, math.MinInt} {
			g := New(2)
			g.Set(1, ups)
			if up, e := g.Test(1, mask, true); !up || e != api.OK {
				t.Errorf("all of mask %d at %d: %t, %d", mask, ups, up, e)
			}
			if up, e := g.Test(1, mask, false); up || e != api.OK {
				t.Errorf("one of mask %d at %d: %t, %d", mask, ups, up, e)
			}
		}
	}
}

// TestLowestBits: of a mask only eight bits count.
func TestLowestBits(t *testing.T) {
	for _, first := range masks {
		for _, second := range masks {
			g, m := made(3)
			set(t, g, m, 1, first)
			test(t, g, m, 1, second)
			down(t, g, m, 1, second)
			compare(t, g, m)
			set(t, g, m, 1, second)
			compare(t, g, m)
			if v, _ := g.Value(1); v < 0 || v > 255 {
				t.Fatalf("Set of %d, %d: %d", first, second, v)
			}
		}
	}
}

func TestNoSuchGroup(t *testing.T) {
	for _, count := range []int{0, 1, 3, 4} {
		g, m := made(count)
		for i := range count {
			set(t, g, m, i, 255)
		}
		for _, i := range outside(count) {
			for _, mask := range masks {
				if v, e := g.Set(i, mask); v != 0 || e != api.ErrNone {
					t.Errorf("Set of %d, of %d: %d, %d", i, count, v, e)
				}
				if v, e := g.Clear(i, mask); v != 0 || e != api.ErrNone {
					t.Errorf("Clear of %d, of %d: %d, %d", i, count, v, e)
				}
				test(t, g, m, i, mask)
				compare(t, g, m)
			}
		}
	}
}

func TestGroupsStandForThemselves(t *testing.T) {
	g, m := made(4)
	for i := range 4 {
		set(t, g, m, i, 0xf0>>i)
	}
	compare(t, g, m)
	down(t, g, m, 2, 255)
	compare(t, g, m)
	h, n := made(4) // others are down still
	compare(t, h, n)
	set(t, h, n, 2, 9)
	compare(t, g, m)
	compare(t, h, n)
}

func TestCallsInAnyOrder(t *testing.T) {
	seed := uint32(11)
	draw := func(n int) int {
		seed = seed*1664525 + 1013904223
		return int(seed>>8) % n
	}
	for range 200 {
		g, m := made(draw(api.MaxObjects + 1))
		for range 200 {
			i, mask := draw(len(m)+2)-1, draw(1<<12)&draw(1<<12)
			switch draw(3) {
			case 0:
				set(t, g, m, i, mask)
			case 1:
				down(t, g, m, i, mask)
			default:
				test(t, g, m, i, mask)
			}
			compare(t, g, m)
		}
	}
}

func TestNilGroups(t *testing.T) {
	for name, g := range map[string]*Groups{"nil": nil, "ones that New didn't make": {}} {
		for _, i := range outside(0) {
			for _, all := range []bool{false, true} {
				if up, e := g.Test(i, 0, all); up || e != api.ErrNone {
					t.Errorf("%s: Test of %d: %t, %d", name, i, up, e)
				}
			}
			if v, e := g.Set(i, 1); v != 0 || e != api.ErrNone {
				t.Errorf("%s: Set of %d: %d, %d", name, i, v, e)
			}
			if v, e := g.Clear(i, 1); v != 0 || e != api.ErrNone {
				t.Errorf("%s: Clear of %d: %d, %d", name, i, v, e)
			}
		}
		compare(t, g, nil)
	}
}
