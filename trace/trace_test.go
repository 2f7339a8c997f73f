package trace

import (
	"fmt"
	"math"
	"math/big"
	"regexp"
	"slices"
	"strings"
	"testing"

	"signalbox/api"
	"signalbox/kernel"
)

// kinds are the chapter's names, the first one of kind 1.
var kinds = []string{"release", "lost", "start", "displace", "resume", "done", "fault", "call"}

// strangers are numbers of no kind.
func strangers() []int {
	return []int{math.MinInt, -1 << 32, -8, -1, 0, 9, 10, 256, 257, 1<<32 + 1, math.MaxInt}
}

// edges are numbers around which texts turn.
func edges() []int {
	l := []int{0, 1, -1, 7, 9, 10, -10, 11, 13, 99, 100, -100, 101, 999999999, 1000000000, -999999999, -1000000000}
	return append(l, 1<<31-1, 1<<31, -1<<31, -1<<31-1, 1<<32, 1<<53+1, 1e18, -1e18, math.MaxInt-1, math.MaxInt, math.MinInt+1, math.MinInt)
}

// drawn draws numbers, always the same ones of a seed.
type drawn struct{ seed uint64 }

func (d *drawn) upTo(n int) int {
	d.seed = d.seed*6364136223846793005 + 1442695040888963407
	return int(d.seed>>33) % (n + 1)
}

// number is an edge, or a small one.
func (d *drawn) number() int {
	if d.upTo(1) == 0 {
		return edges()[d.upTo(len(edges())-1)]
	}
	return d.upTo(40) - 9
}

func (d *drawn) record() api.Record {
	return api.Record{At: d.number(), Kind: 1 + d.upTo(7), Task: d.number(), Job: d.number(), Op: d.number(), Code: api.Errno(d.number()), Value: d.number()}
}

func (d *drawn) records(most int) []api.Record {
	var l []api.Record
	for range d.upTo(most) {
		l = append(l, d.record())
	}
	return l
}

// lineOf is a record's line, of a kind that there is.
func lineOf(r api.Record) string {
	return fmt.Sprintf("%d %s %d %d %d %d %d", r.At, kinds[r.Kind-1], r.Task, r.Job, r.Op, int(r.Code), r.Value)
}

func textOf(l []api.Record) string {
	s := ""
	for _, r := range l {
		s += lineOf(r) + "\n"
	}
	return s
}

// goesBoth asks whether a record has its line, and is read of it.
func goesBoth(t *testing.T, r api.Record) {
	t.Helper()
	want := lineOf(r)
	if s, ok := Line(r); s != want || !ok {
		t.Errorf("Line(%v) is %q, %t, want %q", r, s, ok, want)
	}
	if back, ok := Parse(want); back != r || !ok {
		t.Errorf("Parse(%q) is %v, %t", want, back, ok)
	}
}

func TestExample(t *testing.T) {
	if s, ok := Line(api.Record{At: 3, Kind: api.RecStart, Task: 1}); s != "3 start 1 0 0 0 0" || !ok {
		t.Error(s, ok)
	}
	if r, ok := Parse("3 start 1 0 0 0 0"); r != (api.Record{At: 3, Kind: 3, Task: 1}) || !ok {
		t.Error(r, ok)
	}
}

func TestKinds(t *testing.T) {
	for i, name := range kinds {
		want := "1 " + name + " 2 3 4 5 6"
		r := api.Record{At: 1, Kind: i + 1, Task: 2, Job: 3, Op: 4, Code: 5, Value: 6}
		if s, ok := Line(r); s != want || !ok {
			t.Errorf("Line(%v) is %q, %t", r, s, ok)
		}
		if back, ok := Parse(want); back != r || !ok {
			t.Errorf("Parse(%q) is %v, %t", want, back, ok)
		}
	}
	for _, kind := range strangers() {
		for _, r := range []api.Record{{Kind: kind}, {At: 1, Kind: kind, Task: 2, Job: 3, Op: 4, Code: 5, Value: 6}} {
			if s, ok := Line(r); s != "" || ok {
				t.Errorf("Line(%v) is %q, %t", r, s, ok)
			}
		}
	}
}

func TestNumbers(t *testing.T) {
	for kind := 1; kind <= 8; kind++ {
		for _, n := range edges() {
			goesBoth(t, api.Record{At: n, Kind: kind})
			goesBoth(t, api.Record{Kind: kind, Task: n})
			goesBoth(t, api.Record{Kind: kind, Job: n})
			goesBoth(t, api.Record{Kind: kind, Op: n})
			goesBoth(t, api.Record{Kind: kind, Code: api.Errno(n)})
			goesBoth(t, api.Record{Kind: kind, Value: n})
			goesBoth(t, api.Record{At: n, Kind: kind, Task: n, Job: n, Op: n, Code: api.Errno(n), Value: n})
		}
	}
}

// refuses asks whether lines are none's.
func refuses(t *testing.T, l ...string) {
	t.Helper()
	for _, s := range l {
		if r, ok := Parse(s); r != (api.Record{}) || ok {
			t.Errorf("Parse(%q) is %v, %t", s, r, ok)
		}
	}
}

func TestParseOfWrongLines(t *testing.T) {
	line := "3 start 1 0 0 0 0"
	refuses(t, "", " ", "      ", "\n", "\x00", "\xff", "start", "3", "3 start", "3 start 1 0 0 0", "3 start 1 0 0 0 ", "3 start 1 0 0 0 0 0",
		line+" ", " "+line, line+"\n", "\n"+line, line+"\r", line+"\x00", line+";", line+line, line+" "+line, line+"\n"+line,
		strings.ReplaceAll(line, " ", "  "), strings.ReplaceAll(line, " ", "\t"), strings.ReplaceAll(line, " ", ""), strings.ReplaceAll(line, " ", "\n"), strings.ReplaceAll(line, " ", ","), strings.ReplaceAll(line, " ", "\u00a0"),
		strings.ToUpper(line), "start 3 1 0 0 0 0", "3 1 start 0 0 0 0", "3 3 1 0 0 0 0", "3  1 0 0 0 0", "3 start  1 0 0 0 0", "3 start 1 0 0 0  0", " start 1 0 0 0 0", "start 1 0 0 0 0",
		strings.Repeat("0 ", 1000), strings.Repeat("9", 100000))
	for _, name := range []string{"", "Start", "START", "starts", "star", "tart", "start\n", "start\x00", "begin", "end", "raise", "compute", "releases", "displaced", "calls", "release lost", "0", "3", "-"} {
		refuses(t, strings.Replace(line, "start", name, 1))
	}
}

func TestParseOfWrongNumbers(t *testing.T) {
	wrong := []string{"", "-", "--1", "+", "+1", "+0", "-0", "00", "01", "-01", "007", "0000000000", "x", "1x", "x1", "0x1", "0b1", "1_0", "1e0", "1.0", "1.", ".", "1,0", "1-", "1-1", " 1", "1\r", "1\x00", "１", "٣", "²", "Inf", "nan", "−1"}
	wrong = append(wrong, "9223372036854775808", "-9223372036854775809", "18446744073709551615", "18446744073709551616", "99999999999999999999999999", "-99999999999999999999999999", "09223372036854775807")
	for place := range 7 {
		for _, n := range wrong {
			words := strings.Split("3 start 1 2 4 5 6", " ")
			words[place] = n
			refuses(t, strings.Join(words, " "))
		}
	}
}

// isLine is the chapter's form; a number beyond its range is none's.
func isLine(s string) bool {
	form := regexp.MustCompile(`\A(0|-?[1-9][0-9]*) (?:` + strings.Join(kinds, "|") + `) (0|-?[1-9][0-9]*) (0|-?[1-9][0-9]*) (0|-?[1-9][0-9]*) (0|-?[1-9][0-9]*) (0|-?[1-9][0-9]*)\z`)
	parts := form.FindStringSubmatch(s)
	for _, digits := range parts {
		if digits == s {
			continue
		}
		if n, ok := new(big.Int).SetString(digits, 10); !ok || !n.IsInt64() {
			return false
		}
	}
	return parts != nil
}

// askLine holds Parse of whatever line against the chapter's form.
func askLine(t *testing.T, s string) {
	t.Helper()
	r, ok := Parse(s)
	if ok != isLine(s) || !ok && r != (api.Record{}) || ok && lineOf(r) != s {
		t.Errorf("Parse(%q) is %v, %t", s, r, ok)
	}
}

// TestLinesThatAreNearlyOnes: one byte of a line is another, too much, or missing.
func TestLinesThatAreNearlyOnes(t *testing.T) {
	for _, line := range []string{"3 start 1 0 0 0 0", "10 call 2 1 13 6 -9", "-9223372036854775808 done 9223372036854775807 0 100 7 -1"} {
		askLine(t, line)
		for i := range len(line) {
			askLine(t, line[:i]+line[i+1:])
			for _, b := range []byte("0159- \n\t+.axdel\x00\xff") {
				askLine(t, line[:i]+string([]byte{b})+line[i+1:])
				askLine(t, line[:i]+string([]byte{b})+line[i:])
			}
		}
	}
}

func TestTexts(t *testing.T) {
	d := &drawn{1}
	for range 2000 {
		l := d.records(12)
		before, want := slices.Clone(l), textOf(l)
		if s, ok := Text(l); s != want || !ok {
			t.Fatalf("Text(%v) is %q, %t", l, s, ok)
		}
		if !slices.Equal(l, before) {
			t.Fatal("what was handed in is changed")
		}
		if back, e := Read(want); !slices.Equal(back, l) || e != api.OK {
			t.Fatalf("Read(%q) is %v, %d", want, back, e)
		}
	}
	for _, none := range [][]api.Record{nil, {}} {
		if s, ok := Text(none); s != "" || !ok {
			t.Errorf("Text of none is %q, %t", s, ok)
		}
	}
	if l, e := Read(""); len(l) > 0 || e != api.OK {
		t.Error(l, e)
	}
}

func TestTextOfOtherKinds(t *testing.T) {
	for _, kind := range strangers() {
		for place := range 3 {
			l := []api.Record{{Kind: 1}, {At: 1, Kind: 8}, {At: 2, Kind: 3}}
			l[place].Kind = kind
			if s, ok := Text(l); s != "" || ok {
				t.Errorf("Text(%v) is %q, %t", l, s, ok)
			}
		}
	}
}

func TestReadOfWrongTexts(t *testing.T) {
	line := "3 start 1 0 0 0 0\n"
	for _, s := range []string{
		"\n", " ", "\n\n", "x", "x\n", "\x00", "3 start 1 0 0 0 0", line + "\n", "\n" + line, line + "\n" + line, line + " ", " " + line, line + "3 start 1 0 0 0 0", line + "x\n", "x\n" + line,
		line + "3 start 1 0 0 0\n0\n", line + "3 start 1 0 0 0 00\n", line + "3 begin 1 0 0 0 0\n" + line, strings.ReplaceAll(line+line, "\n", "\r\n"), strings.ReplaceAll(line+line, "\n", ";"), strings.ReplaceAll(line+line, "\n", ""),
		strings.Repeat(line, 1000) + "x\n", strings.Repeat(line, 1000) + "until 9\n",
	} {
		if l, e := Read(s); len(l) > 0 || e != api.ErrForm {
			t.Errorf("Read(%q) is %v, %d", s, l, e)
		}
	}
	if l, e := Read(strings.Repeat(line, 5000)); len(l) != 5000 || e != api.OK {
		t.Error(len(l), e)
	}
}

func TestOf(t *testing.T) {
	l := []api.Record{
		{At: 0, Kind: 1, Task: 0, Job: 0}, {At: 1, Kind: 1, Task: 1, Job: 0}, {At: 2, Kind: 3, Task: 1, Job: 0, Value: 7}, {At: 3, Kind: 2, Task: 0, Job: 1},
		{At: 4, Kind: 99, Task: 0, Job: 0}, {At: 5, Kind: 0, Task: -1, Job: -2}, {At: 6, Kind: 8, Task: 0, Job: 0}, {At: 2, Kind: 8, Task: 0, Job: 0}, {At: 8, Kind: 1, Task: math.MaxInt, Job: math.MinInt},
	}
	before := slices.Clone(l)
	for _, x := range []struct {
		task, job int
		places    []int
	}{
		{0, 0, []int{0, 4, 6, 7}}, {1, 0, []int{1, 2}}, {0, 1, []int{3}}, {-1, -2, []int{5}}, {math.MaxInt, math.MinInt, []int{8}},
		{1, 1, nil}, {2, 0, nil}, {0, -1, nil}, {-1, 0, nil}, {math.MinInt, 0, nil}, {0, math.MaxInt, nil}, {math.MinInt, math.MaxInt, nil},
	} {
		var want []api.Record
		for _, i := range x.places {
			want = append(want, l[i])
		}
		got := Of(l, x.task, x.job)
		if !slices.Equal(got, want) {
			t.Errorf("Of(%d, %d): %v, want %v", x.task, x.job, got, want)
		}
		for i := range got { // an answer is the asker's own
			got[i] = api.Record{At: -9}
		}
		if !slices.Equal(l, before) {
			t.Fatal("what was handed in is changed")
		}
	}
	if got := Of(l[:1], 0, 0); len(got) == 1 {
		got[0].At = -9
		_ = append(got, api.Record{At: -9})
	}
	if !slices.Equal(l, before) || len(Of(nil, 0, 0)) > 0 || len(Of([]api.Record{}, 0, 0)) > 0 {
		t.Error(l)
	}
}

func TestCount(t *testing.T) {
	if got := Count(nil); got != [9]int{} {
		t.Error(got)
	}
	for kind := 1; kind <= 8; kind++ {
		var want [9]int
		want[kind] = 3
		if got := Count([]api.Record{{At: 1, Kind: kind}, {Kind: kind, Task: 2}, {At: 1, Kind: kind}}); got != want {
			t.Error(kind, got)
		}
	}
	for _, kind := range strangers() {
		if got := Count([]api.Record{{Kind: kind}, {Kind: 4}, {Kind: kind, Op: 4}}); got != [9]int{0: 2, 4: 1} {
			t.Error(kind, got)
		}
	}
	var l []api.Record
	for kind := -2; kind <= 10; kind++ {
		for range kind + 3 {
			l = append(l, api.Record{Kind: kind})
		}
	}
	if got := Count(l); got != [9]int{1 + 2 + 3 + 12 + 13, 4, 5, 6, 7, 8, 9, 10, 11} {
		t.Error(got)
	}
}

// TestRun: of a run's own trace, in which each kind is told.
func TestRun(t *testing.T) {
	c := api.Config{Machine: api.Machine{Sets: 1, Ways: 1, Hit: 1, Miss: 1}, Counts: []int{3}, Tasks: []api.Task{
		{Priority: 1, Threshold: 1, Period: 50, Deadline: 50, Program: []api.Op{{Kind: api.OpCompute, A: 5}, {Kind: api.OpTake}}},
		{Priority: 2, Threshold: 2, Period: 50, Deadline: 50, Frame: 5, Program: []api.Op{{Kind: api.OpPush, A: 6}}},
	}}
	k, e := kernel.New(c)
	if e != api.OK {
		t.Fatal(e)
	}
	for range 6 {
		k.Event(api.Event{At: 2, Kind: api.EventRelease})
	}
	k.Event(api.Event{At: 4, Kind: api.EventRelease, A: 1})
	k.Run(60)
	s, ok := Text(k.Trace())
	l, e := Read(s)
	if !ok || e != api.OK || !slices.Equal(l, k.Trace()) {
		t.Error(s, e)
	}
	want := "4 release 1 0 0 0 0\n4 start 1 0 0 0 0\n5 fault 1 0 0 11 0\n"
	if s, ok := Text(Of(l, 1, 0)); s != want || !ok {
		t.Errorf("%q", s)
	}
	want = "2 release 0 0 0 0 0\n2 start 0 0 0 0 0\n4 displace 0 0 0 0 0\n5 resume 0 0 0 0 0\n8 call 0 0 15 8 0\n9 done 0 0 0 0 0\n"
	if s, ok := Text(Of(l, 0, 0)); s != want || !ok {
		t.Errorf("%q", s)
	}
	if got := Count(l); got != [9]int{0, 5, 2, 5, 1, 1, 4, 1, 4} {
		t.Error(got)
	}
}
