package prog

import (
	"math"
	"slices"
	"testing"

	"signalbox/api"
)

// kinds are the chapter's: the name, how many numbers, and of each the least and the most that it may be where there is the room of these tests.
func kinds() map[int]struct {
	name    string
	numbers int
	a, b    [2]int
} {
	type row = struct {
		name    string
		numbers int
		a, b    [2]int
	}
	none, flags := [2]int{0, 0}, [2]int{0, 255}
	return map[int]row{
		1:  {"compute", 1, [2]int{1, 1000}, none},
		2:  {"access", 1, [2]int{0, 255}, none},
		3:  {"enter", 0, none, none},
		4:  {"exit", 0, none, none},
		5:  {"lock", 1, [2]int{0, 4}, none},
		6:  {"unlock", 1, [2]int{0, 4}, none},
		7:  {"push", 1, [2]int{1, 4096}, none},
		8:  {"pop", 1, [2]int{1, 4096}, none},
		9:  {"send", 2, [2]int{0, 1}, flags},
		10: {"recv", 1, [2]int{0, 1}, none},
		11: {"set", 2, [2]int{0, 2}, flags},
		12: {"clear", 2, [2]int{0, 2}, flags},
		13: {"test", 2, [2]int{0, 2}, flags},
		14: {"give", 1, [2]int{0, 3}, none},
		15: {"take", 1, [2]int{0, 3}, none},
	}
}

// room is the room of these tests: of each kind of objects another number.
func room() Room { return Room{Mailboxes: 2, Groups: 3, Counts: 4, Ceilings: 5} }

// strangers are numbers of no kind.
func strangers() []int {
	return []int{0, -1, -2, -15, 16, 17, 255, 1 << 32, 1<<32 + 1, math.MinInt, math.MaxInt}
}

// edges are numbers around which answers turn.
func edges() []int {
	l := []int{math.MinInt, math.MinInt + 1, -1000, -256, -1, 0, 1, 2, 3, 4, 5, 6, 10, 63, 64, 254, 255, 256, 257, 999, 1000, 1001, 4095, 4096, 4097}
	return append(l, 99999999, 100000000, 999999999, 1000000000, 1<<31, 1<<32, math.MaxInt-1, math.MaxInt)
}

func TestNumbers(t *testing.T) {
	for kind, k := range kinds() {
		if n := Numbers(kind); n != k.numbers {
			t.Errorf("Numbers(%d) is %d, want %d", kind, n, k.numbers)
		}
	}
	for _, kind := range strangers() {
		if n := Numbers(kind); n != -1 {
			t.Errorf("Numbers(%d) is %d", kind, n)
		}
	}
}

func TestOp(t *testing.T) {
	for kind, k := range kinds() {
		for _, a := range edges() {
			for _, b := range edges() {
				want := api.ErrRange
				if a >= k.a[0] && a <= k.a[1] && b >= k.b[0] && b <= k.b[1] {
					want = api.OK
				}
				if got := Op(api.Op{Kind: kind, A: a, B: b}, room()); got != want {
					t.Errorf("Op(%s, A %d, B %d) is %d, want %d", k.name, a, b, got, want)
				}
			}
		}
	}
}

func TestOpOfAnotherKind(t *testing.T) {
	for _, kind := range strangers() {
		for _, o := range []api.Op{{Kind: kind}, {Kind: kind, A: 1}, {Kind: kind, A: -1, B: 256}} {
			if e := Op(o, room()); e != api.ErrArg {
				t.Errorf("Op(%v) is %d", o, e)
			}
		}
	}
}

func TestObjectsAreNumberedByTheRoom(t *testing.T) {
	whose := map[int]func(n int) Room{ // the room of so many of what a kind is about, and many of all others
		api.OpSend:   func(n int) Room { return Room{n, 99, 99, 99} },
		api.OpRecv:   func(n int) Room { return Room{n, 99, 99, 99} },
		api.OpSet:    func(n int) Room { return Room{99, n, 99, 99} },
		api.OpClear:  func(n int) Room { return Room{99, n, 99, 99} },
		api.OpTest:   func(n int) Room { return Room{99, n, 99, 99} },
		api.OpGive:   func(n int) Room { return Room{99, 99, n, 99} },
		api.OpTake:   func(n int) Room { return Room{99, 99, n, 99} },
		api.OpLock:   func(n int) Room { return Room{99, 99, 99, n} },
		api.OpUnlock: func(n int) Room { return Room{99, 99, 99, n} },
	}
	for kind, of := range whose {
		for _, count := range []int{math.MinInt, math.MinInt + 1, -3, -1, 0, 1, 2, 4, 7, math.MaxInt} {
			for _, a := range []int{math.MinInt, -4, -1, 0, 1, 2, 3, 4, 6, 7, math.MaxInt - 1, math.MaxInt} {
				want := api.ErrRange
				if a >= 0 && a < count {
					want = api.OK
				}
				if got := Op(api.Op{Kind: kind, A: a}, of(count)); got != want {
					t.Errorf("kind %d, object %d of %d: %d, want %d", kind, a, count, got, want)
				}
			}
		}
	}
	for kind, k := range kinds() {
		if whose[kind] == nil && Op(api.Op{Kind: kind, A: k.a[0]}, Room{-1, -1, -1, -1}) != api.OK {
			t.Errorf("%s asks for objects", k.name)
		}
	}
}

// of is a program of a text that may be read.
func of(t *testing.T, s string) []api.Op {
	t.Helper()
	l, e := Parse(s)
	if e != api.OK {
		t.Fatalf("%q isn't read: %d", s, e)
	}
	return l
}

func TestCheck(t *testing.T) {
	for _, c := range []struct {
		text string
		want api.Errno
	}{
		{"compute 5;enter;exit", api.OK},
		{"access 0", api.OK},
		{"compute 1;access 255;push 4096;pop 4096;send 1 255;recv 1;set 2 0;clear 2 255;test 0 7;give 3;take 0;lock 4;unlock 4", api.OK},

		// regions
		{"enter;enter;exit;enter;exit;exit", api.OK},
		{"enter;exit;enter;exit", api.OK},
		{"enter", api.ErrNest},
		{"exit", api.ErrNest},
		{"exit;enter", api.ErrNest},
		{"enter;exit;exit", api.ErrNest},
		{"enter;exit;exit;enter", api.ErrNest},
		{"enter;enter;exit", api.ErrNest},

		// locks
		{"lock 0;lock 1;unlock 1;lock 2;unlock 2;unlock 0", api.OK},
		{"lock 0;unlock 0;lock 0;unlock 0", api.OK},
		{"lock 4;lock 3;lock 2;lock 1;lock 0;unlock 0;unlock 1;unlock 2;unlock 3;unlock 4", api.OK},
		{"lock 0", api.ErrNest},
		{"unlock 0", api.ErrNest},
		{"unlock 0;lock 0", api.ErrNest},
		{"lock 0;unlock 1", api.ErrNest},
		{"lock 0;unlock 0;unlock 0", api.ErrNest},
		{"lock 0;lock 1;unlock 0;unlock 1", api.ErrNest},
		{"lock 0;lock 1;unlock 1", api.ErrNest},
		{"lock 0;lock 0;unlock 0;unlock 0", api.ErrNest},
		{"lock 0;lock 1;lock 0;unlock 0;unlock 1;unlock 0", api.ErrNest},

		// regions and locks nest each by themselves
		{"enter;lock 0;exit;unlock 0", api.OK},
		{"lock 0;enter;unlock 0;exit", api.OK},
		{"enter;lock 0;exit", api.ErrNest},
		{"enter;lock 0;unlock 0", api.ErrNest},

		// what is pushed
		{"push 5;pop 5", api.OK},
		{"push 5", api.OK},
		{"push 5;pop 4", api.OK},
		{"push 5;push 2;pop 7", api.OK},
		{"push 5;pop 2;pop 3;push 1;pop 1", api.OK},
		{"push 4096;push 4096;push 4096;pop 4096;pop 4096;pop 4096", api.OK},
		{"pop 1", api.ErrNest},
		{"push 5;pop 6", api.ErrNest},
		{"push 5;pop 3;pop 3", api.ErrNest},
		{"pop 1;push 1", api.ErrNest},
		{"push 2;pop 3;push 1", api.ErrNest},

		// the first operation's error
		{"compute 0;exit", api.ErrRange},
		{"exit;compute 0", api.ErrNest},
		{"compute 1;compute 1001", api.ErrRange},
		{"enter;compute 0", api.ErrRange},
		{"lock 5;unlock 5", api.ErrRange},
		{"lock 0;lock 0;lock 5", api.ErrNest},
		{"push 1;pop 2;push 0", api.ErrNest},
		{"push 4097;pop 1", api.ErrRange},
	} {
		l := of(t, c.text)
		before := slices.Clone(l)
		if got := Check(l, room()); got != c.want {
			t.Errorf("Check of %q is %d, want %d", c.text, got, c.want)
		}
		if !slices.Equal(l, before) {
			t.Errorf("%q is changed", c.text)
		}
	}
}

func TestCheckOfOtherKinds(t *testing.T) {
	for _, kind := range strangers() {
		for _, c := range []struct {
			l    []api.Op
			want api.Errno
		}{
			{[]api.Op{{Kind: kind}}, api.ErrArg},
			{[]api.Op{{Kind: 3}, {Kind: kind}}, api.ErrArg},
			{[]api.Op{{Kind: 3}, {Kind: kind, A: -1, B: 999}, {Kind: 1}}, api.ErrArg},
			{[]api.Op{{Kind: 1}, {Kind: kind}}, api.ErrRange},
			{[]api.Op{{Kind: 4}, {Kind: kind}}, api.ErrNest},
		} {
			if got := Check(c.l, room()); got != c.want {
				t.Errorf("Check(%v) is %d, want %d", c.l, got, c.want)
			}
		}
	}
}

func TestCheckOfLengths(t *testing.T) {
	for _, l := range [][]api.Op{nil, {}} {
		if e := Check(l, room()); e != api.ErrArg {
			t.Errorf("no operations: %d", e)
		}
	}
	for count, want := range map[int]api.Errno{1: api.OK, 63: api.OK, 64: api.OK, 65: api.ErrMany, 66: api.ErrMany, 1000: api.ErrMany} {
		if e := Check(slices.Repeat([]api.Op{{Kind: 1, A: 7}}, count), room()); e != want {
			t.Errorf("%d operations: %d, want %d", count, e, want)
		}
		if e := Check(slices.Repeat([]api.Op{{Kind: 99}}, count), room()); count > 64 && e != api.ErrMany {
			t.Errorf("%d operations of no kind: %d", count, e)
		}
	}
	half := append(slices.Repeat([]api.Op{{Kind: 3}}, 32), slices.Repeat([]api.Op{{Kind: 4}}, 32)...)
	if e := Check(half, Room{}); e != api.OK {
		t.Errorf("regions 32 deep: %d", e)
	}
	half[63] = api.Op{Kind: 3}
	if e := Check(half, Room{}); e != api.ErrNest {
		t.Errorf("regions that stay open: %d", e)
	}
}
