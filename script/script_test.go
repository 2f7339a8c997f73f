package script

import (
	"fmt"
	"math"
	"regexp"
	"slices"
	"strconv"
	"strings"
	"testing"

	"signalbox/api"
	"signalbox/kernel"
)

// names are the chapter's, the first one of kind 1.
var names = []string{"release", "raise", "mask", "unmask", "timer"}

const top = 999999999 // the greatest number that is told

// drawn draws numbers, always the same ones of a seed.
type drawn struct{ seed uint64 }

func (d *drawn) upTo(n int) int {
	d.seed = d.seed*6364136223846793005 + 1442695040888963407
	return int(d.seed>>33) % (n + 1)
}

// edges are numbers that are told, around which lines turn.
func edges() []int {
	return []int{0, 1, 9, 10, 11, 99, 100, 101, 65536, 1 << 20, 1<<24 + 1, 99999999, 100000000, top - 1, top}
}

// beyond are numbers that aren't told.
func beyond() []int {
	return []int{-1, -9, -10, -top, math.MinInt, top + 1, 10 * top, 1 << 31, 1 << 32, 1<<32 + 1, 1 << 53, math.MaxInt}
}

func (d *drawn) number() int {
	if d.upTo(2) == 0 {
		return edges()[d.upTo(len(edges())-1)]
	}
	return d.upTo(40)
}

// event is one that has a line.
func (d *drawn) event() api.Event {
	e := api.Event{At: d.number(), Kind: 1 + d.upTo(4), A: d.number()}
	if e.Kind == api.EventTimer {
		e.B, e.C = d.number(), d.number()
	}
	return e
}

func (d *drawn) events(n int) []api.Event {
	var l []api.Event
	for range n {
		l = append(l, d.event())
	}
	return l
}

// lineOf is the line of an event that has one.
func lineOf(e api.Event) string {
	if e.Kind == api.EventTimer {
		return fmt.Sprintf("%d timer %d %d %d", e.At, e.A, e.B, e.C)
	}
	return fmt.Sprintf("%d %s %d", e.At, names[e.Kind-1], e.A)
}

func textOf(l []api.Event, until int) string {
	s := ""
	for _, e := range l {
		s += lineOf(e) + "\n"
	}
	return s + "until " + strconv.Itoa(until) + "\n"
}

// goesBoth asks whether an event has its line, and is read of it.
func goesBoth(t *testing.T, e api.Event) {
	t.Helper()
	want := lineOf(e)
	if s, ok := Line(e); s != want || !ok {
		t.Errorf("Line(%v) is %q, %t, want %q", e, s, ok, want)
	}
	if back, ok := Parse(want); back != e || !ok {
		t.Errorf("Parse(%q) is %v, %t", want, back, ok)
	}
}

// hasNone asks whether an event has no line, alone and in a text.
func hasNone(t *testing.T, e api.Event) {
	t.Helper()
	if s, ok := Line(e); s != "" || ok {
		t.Errorf("Line(%v) is %q, %t", e, s, ok)
	}
	good := api.Event{Kind: api.EventRaise}
	for _, l := range [][]api.Event{{e}, {good, e}, {e, good}} {
		if s, ok := Text(l, 5); s != "" || ok {
			t.Errorf("Text(%v) is %q, %t", l, s, ok)
		}
	}
}

func TestExample(t *testing.T) {
	e := api.Event{At: 0, Kind: api.EventTimer, A: 1, B: 10, C: 3}
	if s, ok := Line(e); s != "0 timer 1 10 3" || !ok {
		t.Error(s, ok)
	}
	if back, ok := Parse("0 timer 1 10 3"); back != e || !ok {
		t.Error(back, ok)
	}
}

func TestKinds(t *testing.T) {
	for i, name := range names[:4] {
		e := api.Event{At: 7, Kind: i + 1, A: 3}
		if s, ok := Line(e); s != "7 "+name+" 3" || !ok {
			t.Error(s, ok)
		}
		goesBoth(t, e)
	}
	for _, kind := range []int{math.MinInt, -1 << 32, -5, -1, 0, 6, 7, 256, 257, 261, 1<<32 + 1, math.MaxInt} {
		hasNone(t, api.Event{Kind: kind})
		hasNone(t, api.Event{At: 1, Kind: kind, A: 2, B: 3, C: 4})
	}
}

func TestNumbers(t *testing.T) {
	for kind := 1; kind <= 5; kind++ {
		for _, n := range edges() {
			goesBoth(t, api.Event{At: n, Kind: kind})
			goesBoth(t, api.Event{Kind: kind, A: n})
			goesBoth(t, api.Event{At: n, Kind: kind, A: n})
		}
		for _, n := range beyond() {
			hasNone(t, api.Event{At: n, Kind: kind})
			hasNone(t, api.Event{Kind: kind, A: n})
			hasNone(t, api.Event{Kind: kind, B: n})
			hasNone(t, api.Event{Kind: kind, C: n})
		}
	}
}

// TestOtherNumbers: what isn't told is 0; a timer tells all.
func TestOtherNumbers(t *testing.T) {
	for _, n := range edges()[1:] {
		for kind := 1; kind <= 4; kind++ {
			hasNone(t, api.Event{At: 1, Kind: kind, A: 2, B: n})
			hasNone(t, api.Event{At: 1, Kind: kind, A: 2, C: n})
			hasNone(t, api.Event{At: 1, Kind: kind, A: 2, B: n, C: n})
		}
		goesBoth(t, api.Event{At: 1, Kind: api.EventTimer, A: 2, B: n})
		goesBoth(t, api.Event{At: 1, Kind: api.EventTimer, A: 2, C: n})
		goesBoth(t, api.Event{At: n, Kind: api.EventTimer, A: n, B: n, C: n})
	}
}

// refuses asks whether lines are none's, alone and in a text.
func refuses(t *testing.T, l ...string) {
	t.Helper()
	for _, s := range l {
		if e, ok := Parse(s); e != (api.Event{}) || ok {
			t.Errorf("Parse(%q) is %v, %t", s, e, ok)
		}
		if strings.Contains(s, "\n") {
			continue
		}
		for _, text := range []string{s + "\nuntil 5\n", "1 mask 0\n" + s + "\nuntil 5\n", s + "\n1 mask 0\nuntil 5\n"} {
			wrong(t, text, api.ErrForm)
		}
	}
}

// wrong asks whether a text is refused.
func wrong(t *testing.T, s string, want api.Errno) {
	t.Helper()
	if l, until, e := Read(s); l != nil || until != 0 || e != want {
		t.Errorf("Read(%q) is %v, %d, %d, want %d", s, l, until, e, want)
	}
}

func TestParseOfWrongLines(t *testing.T) {
	refuses(t, "", " ", "  ", "    ", "\n", "\x00", "\xff", "3", "mask", "3 mask", "3 mask ", " mask 3", "mask 3", "mask 3 3", "3 3 mask", "3 3 3", "3 3", "until 5", "3 until 5")
	for _, line := range []string{"3 mask 1", "3 release 1", "3 raise 1", "3 unmask 1", "3 timer 1 2 3"} {
		refuses(t, line+" ", " "+line, line+"\n", "\n"+line, line+"\r", line+"\x00", line+";", line+line, line+" "+line, line+"\n"+line, line+" 0", line+" 1", line+" 0 0", line+" 1 2 3 4 5 6",
			strings.ReplaceAll(line, " ", "  "), strings.ReplaceAll(line, " ", "\t"), strings.ReplaceAll(line, " ", ""), strings.ReplaceAll(line, " ", "\n"), strings.ReplaceAll(line, " ", ","), strings.ReplaceAll(line, " ", "\u00a0"),
			strings.ToUpper(line), strings.Replace(line, " ", "  ", 1), strings.Repeat(line+" ", 1000), line+strings.Repeat(" ", 100000))
	}
	refuses(t, "3 timer", "3 timer 1", "3 timer 1 2", "3 timer 1 2 ", "3 timer 1  2", "3 timer 1 2 3 4", "3 mask 1 0", "3 mask 1 0 0", "3 release 1 2 3")
	for _, name := range []string{"", "Mask", "masks", "mas", "ask", "mask\x00", "unmasks", "un mask", "timers", "releases", "lost", "start", "call", "done", "0", "1", "5", "-"} {
		refuses(t, "3 "+name+" 1", "3 "+name+" 1 2 3")
	}
}

func TestParseOfWrongNumbers(t *testing.T) {
	bad := []string{"", "-", "-1", "--1", "+", "+1", "+0", "-0", "00", "01", "007", "000000000", "0000000001", "x", "1x", "x1", "0x1", "0b1", "0o7", "1_0", "1e0", "1.0", "1.", ".", "1,0", "1-", " 1", "1\r", "1\t", "1\x00", "１", "٣", "²", "Inf", "nan"}
	bad = append(bad, "1000000000", "9999999999", "4294967296", "4294967297", "9223372036854775807", "9223372036854775808", "18446744073709551616", "18446744073709551617", "-999999999", strings.Repeat("9", 100000))
	for _, n := range bad {
		refuses(t, n+" mask 1", "1 mask "+n, n+" timer 1 2 3", "1 timer "+n+" 2 3", "1 timer 1 "+n+" 3", "1 timer 1 2 "+n)
		if n != "" {
			wrong(t, "until "+n+"\n", api.ErrForm)
		}
	}
}

// pattern is what lines there are.
var pattern = regexp.MustCompile(`^(0|[1-9][0-9]{0,8}) ((release|raise|mask|unmask) (0|[1-9][0-9]{0,8})|timer (0|[1-9][0-9]{0,8}) (0|[1-9][0-9]{0,8}) (0|[1-9][0-9]{0,8}))$`)

// TestLinesThatAreAByteOff holds lines against the pattern: of those that fit the line is written again, byte by byte.
func TestLinesThatAreAByteOff(t *testing.T) {
	d := &drawn{1}
	const bytes = " 0123456789-+\n\raelmnrsux\x00"
	fit := 0
	for range 20000 {
		b := []byte(lineOf(d.event()))
		for range 1 + d.upTo(1) {
			i := d.upTo(len(b) - 1)
			switch x := bytes[d.upTo(len(bytes)-1)]; d.upTo(2) {
			case 0:
				b[i] = x
			case 1:
				b = slices.Insert(b, i, x)
			case 2:
				b = append(slices.Delete(b, i, i+1), bytes[d.upTo(10)])
			}
		}
		e, ok := Parse(string(b))
		if ok != pattern.Match(b) || !ok && e != (api.Event{}) {
			t.Fatalf("Parse(%q) is %v, %t", b, e, ok)
		}
		if s, _ := Line(e); ok && s != string(b) {
			t.Fatalf("%q is read, and written %q", b, s)
		}
		if ok {
			fit++
		}
	}
	if fit < 1000 || fit > 19000 {
		t.Error("the draws tell little:", fit)
	}
}

func TestText(t *testing.T) {
	for _, until := range edges() {
		want := "until " + strconv.Itoa(until) + "\n"
		for _, l := range [][]api.Event{nil, {}} {
			if s, ok := Text(l, until); s != want || !ok {
				t.Errorf("%q, %t", s, ok)
			}
		}
		if l, n, e := Read(want); len(l) != 0 || n != until || e != api.OK {
			t.Error(l, n, e)
		}
	}
	l := []api.Event{{At: 5, Kind: api.EventRelease, A: 1}, {At: 3, Kind: api.EventTimer, A: 1, B: 2, C: 3}, {Kind: api.EventUnmask}}
	want := "5 release 1\n3 timer 1 2 3\n0 unmask 0\nuntil 40\n"
	if s, ok := Text(l, 40); s != want || !ok {
		t.Errorf("%q, %t", s, ok)
	}
	if back, until, e := Read(want); !slices.Equal(back, l) || until != 40 || e != api.OK {
		t.Error(back, until, e)
	}
}

func TestTextOfWrongTicks(t *testing.T) {
	for _, until := range beyond() {
		for _, l := range [][]api.Event{nil, {{Kind: api.EventMask}}, {{}}} {
			if s, ok := Text(l, until); s != "" || ok {
				t.Errorf("until %d: %q, %t", until, s, ok)
			}
		}
	}
}

func TestReadOfWrongTexts(t *testing.T) {
	for _, s := range []string{
		"", "\n", " ", "\x00", "until", "until\n", "until \n", "until 5", "until 5 \n", " until 5\n", "until  5\n", "until 5 5\n", "Until 5\n", "until5\n", "5 until\n", "until\t5\n", "until 5\r\n", "until 5\n\n", "\nuntil 5\n",
		"until 5\nuntil 5\n", "until 5\n1 mask 0\n", "until 5\n1 mask 0\nuntil 5\n", "until 5\nuntil 6", "until 5\n ", "until 5\n\x00", "til 5\n", "untilx 5\n",
		"1 mask 0", "1 mask 0\n", "1 mask 0\nuntil 5", "1 mask 0\n\nuntil 5\n", "1 mask 0 until 5\n", "1 mask 0until 5\n", "1 mask 0\r\nuntil 5\n", "1 mask 0\n1 mask 0\n", "1 mask 0;until 5\n",
		"x\nuntil 5\n", "1 mask 0\nx\nuntil 5\n", "until 5\nx\n", "# remark\nuntil 5\n", "1 mask 0\nuntil -1\n", "1 mask 0\nuntil 1000000000\n",
	} {
		wrong(t, s, api.ErrForm)
	}
}

// TestMany: a text with more events than may be is refused, but if it has no form that is told first.
func TestMany(t *testing.T) {
	d := &drawn{5}
	for _, n := range []int{0, 1, 2, 255, 256} {
		l := d.events(n)
		if back, until, e := Read(textOf(l, 77)); !slices.Equal(back, l) || until != 77 || e != api.OK {
			t.Error(n, len(back), until, e)
		}
	}
	for _, n := range []int{257, 258, 300, 512, 513, 5000} {
		l := d.events(n)
		s, ok := Text(l, 77)
		if s != textOf(l, 77) || !ok {
			t.Error(n, "events aren't written")
		}
		wrong(t, s, api.ErrMany)
		wrong(t, s[:len(s)-1], api.ErrForm)
		wrong(t, s+"\n", api.ErrForm)
		wrong(t, s+s, api.ErrForm)
		wrong(t, "x"+s, api.ErrForm)
		wrong(t, strings.TrimSuffix(s, "until 77\n")+"until 1000000000\n", api.ErrForm)
	}
}

// TestWrittenIsRead: P21.2.
func TestWrittenIsRead(t *testing.T) {
	d := &drawn{9}
	for range 2000 {
		l, until := d.events(d.upTo(12)), d.number()
		before := slices.Clone(l)
		s, ok := Text(l, until)
		if s != textOf(l, until) || !ok || !slices.Equal(l, before) {
			t.Fatalf("Text(%v, %d) is %q, %t", l, until, s, ok)
		}
		back, n, e := Read(s)
		if !slices.Equal(back, l) || n != until || e != api.OK {
			t.Fatalf("Read(%q) is %v, %d, %d", s, back, n, e)
		}
		for i := range back { // an answer is the asker's own
			back[i] = api.Event{}
		}
		if again, _, _ := Read(s); !slices.Equal(again, l) {
			t.Fatal("answers share memory")
		}
	}
}

// periodic is Periodic, plainly: tick by tick, of each task.
func periodic(periods []int, until int) []api.Event {
	var l []api.Event
	for task, period := range periods {
		for at := 0; at < until && len(l) < 256; at++ {
			if period >= 1 && at%period == 0 {
				l = append(l, api.Event{At: at, Kind: api.EventRelease, A: task})
			}
		}
	}
	return l
}

// config has tasks of these periods.
func config(periods ...int) api.Config {
	var c api.Config
	for _, p := range periods {
		c.Tasks = append(c.Tasks, api.Task{Period: p, Deadline: 3, Priority: 2})
	}
	return c
}

func TestPeriodic(t *testing.T) {
	d := &drawn{3}
	for range 3000 {
		var periods []int
		for range d.upTo(5) {
			periods = append(periods, d.upTo(33)-3)
		}
		until := d.upTo(400) - 20
		c := config(periods...)
		got := Periodic(c, until)
		if !slices.Equal(got, periodic(periods, until)) {
			t.Fatalf("Periodic of %v up to %d: %v", periods, until, got)
		}
		for i, p := range periods {
			if c.Tasks[i].Period != p {
				t.Fatal("what was handed in is changed")
			}
		}
	}
}

func TestPeriodicAtItsEdges(t *testing.T) {
	for _, row := range []struct {
		periods []int
		until   int
		ats     []int // of task 0
	}{
		{[]int{10}, 0, nil},
		{[]int{10}, -1, nil},
		{[]int{10}, math.MinInt, nil},
		{[]int{10}, 1, []int{0}},
		{[]int{10}, 10, []int{0}},
		{[]int{10}, 11, []int{0, 10}},
		{[]int{10}, 30, []int{0, 10, 20}},
		{[]int{0}, 30, nil},
		{[]int{-1}, 30, nil},
		{[]int{math.MinInt}, math.MaxInt, nil},
		{[]int{math.MaxInt}, math.MaxInt, []int{0}},
		{[]int{math.MaxInt - 1}, math.MaxInt, []int{0, math.MaxInt - 1}},
		{[]int{1 << 62}, math.MaxInt, []int{0, 1 << 62}},
		{[]int{1<<62 - 1}, math.MaxInt, []int{0, 1<<62 - 1, 1<<63 - 2}},
		{nil, 30, nil},
	} {
		var want []api.Event
		for _, at := range row.ats {
			want = append(want, api.Event{At: at, Kind: api.EventRelease})
		}
		if got := Periodic(config(row.periods...), row.until); !slices.Equal(got, want) {
			t.Errorf("Periodic of %v up to %d: %v", row.periods, row.until, got)
		}
	}
}

// TestPeriodicHasAMost: of each task in order, as many as may be in all.
func TestPeriodicHasAMost(t *testing.T) {
	for _, row := range []struct {
		periods []int
		counts  []int
	}{
		{[]int{1}, []int{256}},
		{[]int{1, 1}, []int{256, 0}},
		{[]int{10, 1}, []int{100, 156}},
		{[]int{4, 200, 1}, []int{250, 5, 1}},
		{[]int{4, 250, 1000, 0, 500, 100}, []int{250, 4, 1, 0, 1, 0}},
		{[]int{1 << 20, 5, 20}, []int{1, 200, 50}},
		{[]int{5, 20, 200, 1000}, []int{200, 50, 5, 1}},
		{[]int{5, 20, 200, 1000, 1000}, []int{200, 50, 5, 1, 0}},
	} {
		counts := make([]int, len(row.periods))
		for _, e := range Periodic(config(row.periods...), 1000) {
			counts[e.A]++
		}
		if !slices.Equal(counts, row.counts) {
			t.Errorf("%v: %v, want %v", row.periods, counts, row.counts)
		}
	}
	if got := Periodic(config(1, 1), math.MaxInt); len(got) != 256 || got[255] != (api.Event{At: 255, Kind: 1}) {
		t.Error(len(got))
	}
}

// TestPeriodicIsTaken: a kernel takes all of these, and each task is released as often as told.
func TestPeriodicIsTaken(t *testing.T) {
	c := config(7, 9, 30)
	c.Machine = api.Machine{Sets: 1, Ways: 1, Hit: 1, Miss: 2}
	for i := range c.Tasks {
		c.Tasks[i].Priority, c.Tasks[i].Threshold = i+1, i+1
		c.Tasks[i].Program = []api.Op{{Kind: api.OpCompute, A: 1}}
	}
	k, e := kernel.New(c)
	if e != api.OK {
		t.Fatal(e)
	}
	for _, event := range Periodic(c, 91) {
		if e := k.Event(event); e != api.OK {
			t.Fatal(event, e)
		}
	}
	k.Run(200)
	var counts [3]int
	for _, r := range k.Reports() {
		counts[r.Task]++
	}
	if counts != [3]int{13, 11, 4} {
		t.Error(counts)
	}
}
