package lines

import (
	"math"
	"slices"
	"testing"

	"signalbox/api"
)

// What a line may be asked to do.
const (
	raise = iota
	mask
	unmask
	calls
)

// model are lines as plain as can be: of each, all calls so far.
type model [][]int

func (m model) has(i int) bool { return i >= 0 && i < len(m) }

// lately are a line's calls since it was last unmasked, from the first time on that it was masked.
func (m model) lately(i int) []int {
	if !m.has(i) {
		return nil
	}
	l := m[i]
	for slices.Contains(l, unmask) {
		l = l[slices.Index(l, unmask)+1:]
	}
	if at := slices.Index(l, mask); at >= 0 {
		return l[at:]
	}
	return nil
}

func (m model) masked(i int) bool  { return slices.Contains(m.lately(i), mask) }
func (m model) latched(i int) bool { return slices.Contains(m.lately(i), raise) }

// delivers asks whether a call that is made now delivers something.
func (m model) delivers(i, call int) bool {
	switch call {
	case raise:
		return m.has(i) && !m.masked(i)
	case unmask:
		return m.latched(i)
	}
	return false
}

// made are so many lines, and their model.
func made(count int) (*Lines, model) { return New(count), make(model, count) }

// outside are numbers that none of so many lines has.
func outside(count int) []int {
	return []int{math.MinInt, -1 << 32, -2, -1, count, count + 1, 1 << 32, math.MaxInt}
}

// compare asks lines all that leaves them as they are.
func compare(t *testing.T, l *Lines, m model) {
	t.Helper()
	if l.Len() != len(m) {
		t.Fatalf("Len %d, want %d", l.Len(), len(m))
	}
	for i := range m {
		compareLine(t, l, m, i)
	}
	for _, i := range outside(len(m)) {
		compareLine(t, l, m, i)
	}
}

func compareLine(t *testing.T, l *Lines, m model, i int) {
	t.Helper()
	if got, want := l.Masked(i), m.masked(i); got != want {
		t.Fatalf("Masked(%d): %t, want %t, behind %v", i, got, want, m)
	}
	if got, want := l.Latched(i), m.latched(i); got != want {
		t.Fatalf("Latched(%d): %t, want %t, behind %v", i, got, want, m)
	}
}

// do makes one call, and holds its answer and all lines against the model's.
func do(t *testing.T, l *Lines, m model, i, call int) {
	t.Helper()
	want, wantError := m.delivers(i, call), api.OK
	if !m.has(i) {
		wantError = api.ErrNone
	}
	got, e := false, api.OK
	switch call {
	case raise:
		got, e = l.Raise(i)
	case mask:
		e = l.Mask(i)
	case unmask:
		got, e = l.Unmask(i)
	}
	if got != want || e != wantError {
		t.Fatalf("call %d of line %d: %t, %d, want %t, %d, behind %v", call, i, got, e, want, wantError, m)
	}
	if m.has(i) {
		m[i] = append(m[i], call)
	}
	compare(t, l, m)
}

func TestExample(t *testing.T) {
	l := New(1)
	if e := l.Mask(0); e != api.OK {
		t.Error(e)
	}
	for range 2 {
		if now, e := l.Raise(0); now || e != api.OK {
			t.Error(now, e)
		}
	}
	if now, e := l.Unmask(0); !now || e != api.OK {
		t.Error(now, e)
	}
	if now, e := l.Unmask(0); now || e != api.OK {
		t.Error("a second time:", now, e)
	}
}

// TestOpen: an open line delivers each time, and latches nothing.
func TestOpen(t *testing.T) {
	l := New(1)
	for range 3 {
		if now, e := l.Raise(0); !now || e != api.OK {
			t.Error(now, e)
		}
		if l.Latched(0) || l.Masked(0) {
			t.Error("latched or masked")
		}
	}
	if now, e := l.Unmask(0); now || e != api.OK {
		t.Error(now, e)
	}
	l.Mask(0) // what was delivered isn't latched later either
	if l.Latched(0) {
		t.Error("latched")
	}
	if now, e := l.Unmask(0); now || e != api.OK {
		t.Error(now, e)
	}
}

// TestMaskedTwice: what is latched stays latched till the line is open.
func TestMaskedTwice(t *testing.T) {
	l := New(1)
	l.Mask(0)
	l.Raise(0)
	l.Mask(0)
	if !l.Latched(0) || !l.Masked(0) {
		t.Error("not latched, or not masked")
	}
	if now, e := l.Unmask(0); !now || e != api.OK {
		t.Error(now, e)
	}
	if l.Latched(0) || l.Masked(0) {
		t.Error("latched or masked still")
	}
	l.Mask(0)
	if now, e := l.Unmask(0); now || e != api.OK {
		t.Error("delivered twice:", now, e)
	}
}

// TestAllRows makes all rows of a few calls.
func TestAllRows(t *testing.T) {
	const length = 7
	rows := 1
	for range length {
		rows *= calls
	}
	for row := range rows {
		l, m := made(1)
		for range length {
			do(t, l, m, 0, row%calls)
			row /= calls
		}
	}
}

func TestHowMany(t *testing.T) {
	for n, want := range map[int]int{
		0: 0, 1: 1, 2: 2, 3: 3, 4: 4, 5: 5, 6: 6, 7: 7, 8: 8,
		-1: 0, -8: 0, math.MinInt: 0,
		9: 8, 10: 8, 64: 8, 256: 8, 1 << 32: 8, 1<<32 + 1: 8, math.MaxInt: 8,
	} {
		l, m := New(n), make(model, want)
		compare(t, l, m)
		for i := range m {
			do(t, l, m, i, mask)
			do(t, l, m, i, raise)
		}
	}
}

func TestNoSuchLine(t *testing.T) {
	for _, count := range []int{0, 1, 3, 8} {
		for _, masked := range []bool{false, true} {
			l, m := made(count)
			for i := range m {
				if masked {
					do(t, l, m, i, mask)
					do(t, l, m, i, raise)
				}
			}
			for _, i := range outside(count) {
				for call := range calls {
					do(t, l, m, i, call)
				}
			}
		}
	}
}

func TestLinesStandForThemselves(t *testing.T) {
	l, m := made(4)
	do(t, l, m, 1, mask)
	do(t, l, m, 2, mask)
	do(t, l, m, 2, raise)
	do(t, l, m, 3, raise)
	other, n := made(4) // others are open still
	compare(t, other, n)
	do(t, other, n, 1, raise)
	do(t, other, n, 2, unmask)
	compare(t, l, m)
}

func TestCallsInAnyOrder(t *testing.T) {
	seed := uint32(14)
	draw := func(n int) int {
		seed = seed*1664525 + 1013904223
		return int(seed>>8) % n
	}
	for range 200 {
		l, m := made(draw(api.MaxLines + 1))
		for range 200 {
			do(t, l, m, draw(len(m)+2)-1, draw(calls))
		}
	}
}

func TestNilLines(t *testing.T) {
	for name, l := range map[string]*Lines{"nil": nil, "ones that New didn't make": {}} {
		for _, i := range outside(0) {
			if now, e := l.Raise(i); now || e != api.ErrNone {
				t.Errorf("%s: Raise of %d: %t, %d", name, i, now, e)
			}
			if e := l.Mask(i); e != api.ErrNone {
				t.Errorf("%s: Mask of %d: %d", name, i, e)
			}
			if now, e := l.Unmask(i); now || e != api.ErrNone {
				t.Errorf("%s: Unmask of %d: %t, %d", name, i, now, e)
			}
		}
		compare(t, l, nil)
	}
}
