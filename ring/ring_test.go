package ring

import (
	"math"
	"slices"
	"testing"

	"signalbox/api"
)

// compare asks a ring of numbers all that leaves it as it is.
func compare(t *testing.T, r *Ring[int], want []int, room int) {
	t.Helper()
	if r.Len() != len(want) || r.Room() != room {
		t.Fatalf("%v: Len %d, Room %d, want %d", want, r.Len(), r.Room(), room)
	}
	if all := r.All(); !slices.Equal(all, want) {
		t.Fatalf("%v: All %v", want, all)
	}
	first, ok := r.First()
	if ok != (len(want) > 0) || !ok && first != 0 || ok && first != want[0] {
		t.Fatalf("%v: First %d, %v", want, first, ok)
	}
}

func TestExample(t *testing.T) {
	r := New[int](1)
	if e := r.Put(7); e != api.OK {
		t.Error(e)
	}
	if e := r.Put(8); e != api.ErrFull {
		t.Error(e)
	}
	compare(t, r, []int{7}, 1)
}

func TestRooms(t *testing.T) {
	for _, room := range []int{0, 1, 2, 3, 8, 4095, 4096} {
		compare(t, New[int](room), nil, room)
	}
	for _, room := range []int{-1, -2, math.MinInt, 4097, 4098, 1 << 32, math.MaxInt} {
		if New[int](room) != nil {
			t.Errorf("a ring of room %d", room)
		}
	}
}

func TestNoRoom(t *testing.T) {
	r := New[int](0)
	if e := r.Put(5); e != api.ErrFull {
		t.Error(e)
	}
	if x, e := r.Take(); x != 0 || e != api.ErrEmpty {
		t.Error(x, e)
	}
	compare(t, r, nil, 0)
}

func TestFullAndEmptyAgain(t *testing.T) {
	for _, room := range []int{1, 2, 3, 5, 7, 8, 9, 64, 4095, 4096} {
		r := New[int](room)
		for lap := range 3 {
			var want []int
			for i := range room {
				if e := r.Put(lap*room + i); e != api.OK {
					t.Fatalf("room %d: the put number %d: %d", room, i, e)
				}
				want = append(want, lap*room+i)
			}
			for range 2 {
				if e := r.Put(-9); e != api.ErrFull {
					t.Fatalf("room %d: one more than there is room: %d", room, e)
				}
			}
			compare(t, r, want, room)
			for _, n := range want {
				if x, e := r.Take(); x != n || e != api.OK {
					t.Fatalf("room %d: took %d, %d, want %d", room, x, e, n)
				}
			}
			for range 2 {
				if x, e := r.Take(); x != 0 || e != api.ErrEmpty {
					t.Fatalf("room %d: took %d, %d of nothing", room, x, e)
				}
			}
			compare(t, r, nil, room)
		}
	}
}

func TestPutsAndTakesInAnyOrder(t *testing.T) {
	for _, room := range []int{1, 2, 3, 4, 6, 13} {
		r := New[int](room)
		var want []int
		seed := uint32(room)
		for i := range 3000 {
			seed = seed*1664525 + 1013904223
			bias := uint32(1 + i/50%3) // up for a while, even for a while, down for a while
			if seed>>16%4 >= bias {
				e := r.Put(i)
				if full := len(want) == room; full != (e == api.ErrFull) || !full && e != api.OK {
					t.Fatalf("room %d, %v: Put: %d", room, want, e)
				}
				if e == api.OK {
					want = append(want, i)
				}
			} else {
				x, e := r.Take()
				if len(want) == 0 {
					if x != 0 || e != api.ErrEmpty {
						t.Fatalf("room %d: took %d, %d of nothing", room, x, e)
					}
				} else if x != want[0] || e != api.OK {
					t.Fatalf("room %d, %v: took %d, %d", room, want, x, e)
				} else {
					want = want[1:]
				}
			}
			compare(t, r, want, room)
		}
	}
}

func TestNilRing(t *testing.T) {
	var r *Ring[int]
	for range 2 {
		if e := r.Put(3); e != api.ErrArg {
			t.Error(e)
		}
		if x, e := r.Take(); x != 0 || e != api.ErrEmpty {
			t.Error(x, e)
		}
		compare(t, r, nil, 0)
	}
	if e := New[string](-1).Put("a"); e != api.ErrArg {
		t.Error(e)
	}
}

func TestZeroRing(t *testing.T) {
	var r Ring[int]
	if e := r.Put(3); e != api.ErrFull {
		t.Error(e)
	}
	compare(t, &r, nil, 0)
}

func TestAnyType(t *testing.T) {
	texts := New[string](2)
	texts.Put("one")
	texts.Put("")
	if e := texts.Put("three"); e != api.ErrFull {
		t.Error(e)
	}
	if x, e := texts.Take(); x != "one" || e != api.OK {
		t.Error(x, e)
	}
	if x, ok := texts.First(); x != "" || !ok {
		t.Errorf("%q, %v: an empty text is one all the same", x, ok)
	}
	events := New[api.Event](3)
	events.Put(api.Event{At: 4, Kind: api.EventRaise, A: 1})
	if x, ok := events.First(); !ok || x != (api.Event{At: 4, Kind: api.EventRaise, A: 1}) {
		t.Error(x, ok)
	}
	nothings := New[struct{}](2)
	if nothings.Put(struct{}{}) != api.OK || nothings.Put(struct{}{}) != api.OK || nothings.Put(struct{}{}) != api.ErrFull || len(nothings.All()) != 2 {
		t.Error(nothings.Len())
	}
	steps := New[func(int) int](1)
	steps.Put(nil)
	if x, ok := steps.First(); x != nil || !ok {
		t.Error("nil is one all the same", ok)
	}
}

func TestAllIsNewMemory(t *testing.T) {
	r := New[int](4)
	for n := range 4 {
		r.Put(n)
	}
	a, b := r.All(), r.All()
	a[0], a[3] = 90, 93
	_ = append(a[:1], 91)
	if !slices.Equal(b, []int{0, 1, 2, 3}) {
		t.Errorf("two answers share memory: %v", b)
	}
	compare(t, r, []int{0, 1, 2, 3}, 4)
	r.Take()
	r.Put(4)
	if !slices.Equal(b, []int{0, 1, 2, 3}) {
		t.Errorf("an answer changed: %v", b)
	}
	compare(t, r, []int{1, 2, 3, 4}, 4)
}

func TestRingsAreApart(t *testing.T) {
	a, b := New[int](2), New[int](2)
	a.Put(1)
	b.Put(2)
	a.Put(3)
	compare(t, a, []int{1, 3}, 2)
	compare(t, b, []int{2}, 2)
}

func TestWhatIsTakenIsNotKept(t *testing.T) {
	r := New[*int](5)
	for range 3 {
		for n := range 4 {
			r.Put(&n)
		}
		for range 4 {
			r.Take()
		}
	}
	for i, p := range r.slots {
		if p != nil {
			t.Errorf("slot %d holds what is out of the ring", i)
		}
	}
}
