package mailbox

import (
	"math"
	"slices"
	"testing"

	"signalbox/api"
)

// model are mailboxes as plain as can be: rows of values, each with its room.
type model struct {
	rooms  []int
	values [][]int
}

func (m *model) has(i int) bool { return i >= 0 && i < len(m.rooms) }

func (m *model) send(i, v int) api.Errno {
	switch {
	case !m.has(i):
		return api.ErrNone
	case len(m.values[i]) == m.rooms[i]:
		return api.ErrFull
	}
	m.values[i] = append(m.values[i], v)
	return api.OK
}

func (m *model) recv(i int) (int, api.Errno) {
	switch {
	case !m.has(i):
		return 0, api.ErrNone
	case len(m.values[i]) == 0:
		return 0, api.ErrEmpty
	}
	v := m.values[i][0]
	m.values[i] = m.values[i][1:]
	return v, api.OK
}

// made are empty mailboxes of rooms that may be, and their model.
func made(rooms ...int) (*Boxes, *model) {
	return New(rooms), &model{rooms: rooms, values: make([][]int, len(rooms))}
}

// outside are numbers that none of so many mailboxes has.
func outside(count int) []int {
	return []int{math.MinInt, -1 << 32, -2, -1, count, count + 1, 1 << 32, math.MaxInt}
}

// compare asks mailboxes all that leaves them as they are.
func compare(t *testing.T, b *Boxes, m *model) {
	t.Helper()
	if b.Len() != len(m.rooms) {
		t.Fatalf("Len %d, want %d", b.Len(), len(m.rooms))
	}
	for i, want := range m.values {
		if got := b.All(i); !slices.Equal(got, want) {
			t.Fatalf("mailbox %d: %v, want %v", i, got, want)
		}
	}
	for _, i := range outside(len(m.rooms)) {
		if got := b.All(i); got != nil {
			t.Fatalf("mailbox %d, of %d: %v", i, len(m.rooms), got)
		}
	}
}

func send(t *testing.T, b *Boxes, m *model, i, v int) {
	t.Helper()
	want := m.send(i, v)
	if e := b.Send(i, v); e != want {
		t.Fatalf("Send(%d, %d): %d, want %d", i, v, e, want)
	}
}

func recv(t *testing.T, b *Boxes, m *model, i int) {
	t.Helper()
	want, wantError := m.recv(i)
	if v, e := b.Recv(i); v != want || e != wantError {
		t.Fatalf("Recv(%d): %d, %d, want %d, %d", i, v, e, want, wantError)
	}
}

func TestExample(t *testing.T) {
	b := New([]int{1})
	if e := b.Send(0, 7); e != api.OK {
		t.Error(e)
	}
	if e := b.Send(0, 8); e != api.ErrFull {
		t.Error(e)
	}
	if l := b.All(0); !slices.Equal(l, []int{7}) {
		t.Error(l)
	}
}

func TestOrder(t *testing.T) {
	b := New([]int{3})
	for _, v := range []int{5, 6, 5} {
		if e := b.Send(0, v); e != api.OK {
			t.Fatal(e)
		}
	}
	for i, want := range []int{5, 6, 5} {
		if l := b.All(0); !slices.Equal(l, []int{5, 6, 5}[i:]) {
			t.Error(l)
		}
		if v, e := b.Recv(0); v != want || e != api.OK {
			t.Errorf("%d, %d, want %d", v, e, want)
		}
	}
	if v, e := b.Recv(0); v != 0 || e != api.ErrEmpty {
		t.Error(v, e)
	}
}

// TestRooms: a room that a mailbox can't have is as if it was 1.
func TestRooms(t *testing.T) {
	for room, want := range map[int]int{
		1: 1, 2: 2, 3: 3, 4: 4, 5: 5, 6: 6, 7: 7, 8: 8,
		0: 1, -1: 1, -8: 1, math.MinInt: 1, 9: 1, 10: 1, 4096: 1, 4097: 1, 1<<32 + 2: 1, math.MaxInt: 1,
	} {
		b := New([]int{room})
		m := &model{rooms: []int{want}, values: make([][]int, 1)}
		compare(t, b, m)
		for lap := range 3 {
			for i := range want + 2 {
				send(t, b, m, 0, 10*lap+i)
				compare(t, b, m)
			}
			for range want + 2 {
				recv(t, b, m, 0)
				compare(t, b, m)
			}
		}
	}
}

func TestHowMany(t *testing.T) {
	for _, count := range []int{0, 1, 2, 4, 5, 8, 9, 300} {
		b, m := made(slices.Repeat([]int{2}, count)...)
		compare(t, b, m)
		for i := range count {
			send(t, b, m, i, 1000+i)
		}
		compare(t, b, m)
	}
	if New([]int{}).Len() != 0 || New(nil).Len() != 0 {
		t.Error("there are mailboxes of no rooms")
	}
}

func TestNoSuchMailbox(t *testing.T) {
	for _, rooms := range [][]int{nil, {}, {1}, {2, 1, 2}} {
		b, m := made(rooms...)
		for i := range rooms { // a full one, so that there is no room either
			send(t, b, m, i, 4)
		}
		for _, i := range outside(len(rooms)) {
			if e := b.Send(i, 3); e != api.ErrNone {
				t.Errorf("Send to %d, of %d: %d", i, len(rooms), e)
			}
			if v, e := b.Recv(i); v != 0 || e != api.ErrNone {
				t.Errorf("Recv of %d, of %d: %d, %d", i, len(rooms), v, e)
			}
			compare(t, b, m)
		}
	}
}

func TestAnyValue(t *testing.T) {
	for _, v := range []int{0, 1, -1, 255, 256, -256, 1 << 40, math.MinInt, math.MaxInt} {
		b, m := made(2)
		send(t, b, m, 0, v)
		send(t, b, m, 0, v)
		compare(t, b, m)
		recv(t, b, m, 0)
		recv(t, b, m, 0)
		recv(t, b, m, 0)
		compare(t, b, m)
	}
}

// TestMailboxesStandForThemselves: a full one and an empty one side by side.
func TestMailboxesStandForThemselves(t *testing.T) {
	b, m := made(1, 3, 8, 2)
	for range 4 {
		send(t, b, m, 0, 1)
		send(t, b, m, 2, 2)
	}
	compare(t, b, m)
	for range 2 {
		recv(t, b, m, 1)
		recv(t, b, m, 2)
		recv(t, b, m, 3)
	}
	compare(t, b, m)
	c, n := made(1, 3, 8, 2) // others of the same rooms have nothing
	compare(t, c, n)
	send(t, c, n, 0, 9)
	compare(t, b, m)
}

func TestCallsInAnyOrder(t *testing.T) {
	seed := uint32(6)
	draw := func(n int) int {
		seed = seed*1664525 + 1013904223
		return int(seed>>8) % n
	}
	for range 60 {
		var rooms []int
		for range 1 + draw(4) {
			rooms = append(rooms, 1+draw(8))
		}
		b, m := made(rooms...)
		for i := range 400 {
			bias := 1 + i/50%3 // up for a while, even for a while, down for a while
			at := draw(len(rooms)+2) - 1
			if draw(4) >= bias {
				send(t, b, m, at, i)
			} else {
				recv(t, b, m, at)
			}
			compare(t, b, m)
		}
	}
}

func TestRoomsAreNotKept(t *testing.T) {
	rooms := []int{2, 0, 9}
	b := New(rooms)
	if !slices.Equal(rooms, []int{2, 0, 9}) {
		t.Errorf("the rooms are changed: %v", rooms)
	}
	rooms[0], rooms[1], rooms[2] = 1, 8, 8
	for i, want := range []int{2, 1, 1} {
		count := 0
		for b.Send(i, 3) == api.OK {
			count++
		}
		if count != want {
			t.Errorf("mailbox %d has room for %d, want %d", i, count, want)
		}
	}
}

func TestAllIsNewMemory(t *testing.T) {
	b, m := made(3)
	for v := range 3 {
		send(t, b, m, 0, v)
	}
	x, y := b.All(0), b.All(0)
	x[0], x[2] = 90, 92
	_ = append(x[:1], 91)
	if !slices.Equal(y, []int{0, 1, 2}) {
		t.Errorf("two answers share memory: %v", y)
	}
	compare(t, b, m)
	recv(t, b, m, 0)
	send(t, b, m, 0, 3)
	if !slices.Equal(y, []int{0, 1, 2}) {
		t.Errorf("an answer changed: %v", y)
	}
	compare(t, b, m)
}

func TestNilBoxes(t *testing.T) {
	for name, b := range map[string]*Boxes{"nil": nil, "ones that New didn't make": {}} {
		for _, i := range outside(0) {
			if e := b.Send(i, 1); e != api.ErrNone {
				t.Errorf("%s: Send to %d: %d", name, i, e)
			}
			if v, e := b.Recv(i); v != 0 || e != api.ErrNone {
				t.Errorf("%s: Recv of %d: %d, %d", name, i, v, e)
			}
		}
		compare(t, b, &model{})
	}
}
