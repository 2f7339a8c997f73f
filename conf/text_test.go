package conf

import (
	"slices"
	"strconv"
	"strings"
	"testing"

	"signalbox/api"
	"signalbox/prog"
)

const (
	smallText = "machine 1 1 1 1\ntask 1 1 9 9 0 0 compute 5\n"
	wholeText = "machine 4 2 3 10\n" +
		"mailbox 1\nmailbox 8\n" +
		"groups 3\n" +
		"count 8\ncount 1\ncount 2\n" +
		"ceiling 63\nceiling 5\n" +
		"task 5 7 100 90 64 2 lock 0;send 1 255;unlock 0;lock 1;unlock 1\n" +
		"task 9 9 50 50 0 0 set 2 7;give 2;enter;exit;push 4096;pop 4096\n" +
		"task 0 63 1048576 1 4096 1048576 compute 1000\n" +
		"line 2\nline 0\nline 0\n"
)

// goesBoth asks whether a configuration has a text, and is read of it.
func goesBoth(t *testing.T, c api.Config, text string) {
	t.Helper()
	before := told(c)
	if s, e := Text(c); s != text || e != api.OK {
		t.Errorf("Text is %q, %d, want %q", s, e, text)
	}
	if told(c) != before {
		t.Errorf("Text changed %s to %s", before, told(c))
	}
	if back, e := Parse(text); e != api.OK || told(back) != before || !Same(back, c) {
		t.Errorf("Parse(%q) is %s, %d", text, told(back), e)
	}
}

func TestTexts(t *testing.T) {
	goesBoth(t, small(), smallText)
	goesBoth(t, whole(), wholeText)
}

func TestTextOfPartsAlone(t *testing.T) {
	for lines, with := range map[string]func(c *api.Config){
		"mailbox 7\n":             func(c *api.Config) { c.Mailboxes = []int{7} },
		"groups 1\n":              func(c *api.Config) { c.Groups = 1 },
		"count 3\ncount 3\n":      func(c *api.Config) { c.Counts = []int{3, 3} },
		"ceiling 0\n":             func(c *api.Config) { c.Ceilings = []int{0} },
		"mailbox 2\nceiling 60\n": func(c *api.Config) { c.Mailboxes, c.Ceilings = []int{2}, []int{60} },
		"groups 4\ncount 1\n":     func(c *api.Config) { c.Groups, c.Counts = 4, []int{1} },
		"mailbox 2\ngroups 2\n":   func(c *api.Config) { c.Mailboxes, c.Groups = []int{2}, 2 },
		"groups 3\nceiling 20\n":  func(c *api.Config) { c.Groups, c.Ceilings = 3, []int{20} },
		"count 8\nceiling 10\n":   func(c *api.Config) { c.Counts, c.Ceilings = []int{8}, []int{10} },
	} {
		c := small()
		with(&c)
		goesBoth(t, c, strings.Replace(smallText, "task", lines+"task", 1))
	}
	c := small()
	c.Lines = []int{0, 0}
	goesBoth(t, c, smallText+"line 0\nline 0\n")
}

func TestTextOfWhatMayNotBe(t *testing.T) {
	for _, p := range places() {
		c := whole()
		*p.at(&c) = p.most + 1
		e := Check(c)
		if s, got := Text(c); s != "" || got != e || e == api.OK {
			t.Errorf("%s %d: Text is %q, %d, want %d", p.name, p.most+1, s, got, e)
		}
	}
	if s, e := Text(api.Config{}); s != "" || e != api.ErrRange {
		t.Error(s, e)
	}
}

// TestParseTellsWhatCheckTells: texts as told of configurations that may not be.
func TestParseTellsWhatCheckTells(t *testing.T) {
	task := "task 1 1 9 9 0 0 compute 5\n"
	for _, x := range []struct {
		text string
		e    api.Errno
	}{
		{"machine 1 1 1 1\n", api.ErrArg},
		{"machine 0 0 0 0\n", api.ErrRange},
		{"machine 17 1 1 1\n" + task, api.ErrRange},
		{"machine 1 1 2 1\n" + task, api.ErrRange},
		{"machine 1 1 1 999999999\n" + task, api.ErrRange},
		{"machine 1 1 1 1\n" + strings.Repeat("mailbox 1\n", 5) + task, api.ErrMany},
		{"machine 1 1 1 1\ngroups 5\n" + task, api.ErrMany},
		{"machine 1 1 1 1\ngroups 999999999\n" + task, api.ErrMany},
		{"machine 1 1 1 1\n" + strings.Repeat("count 1\n", 500) + task, api.ErrMany},
		{"machine 1 1 1 1\n" + strings.Repeat("ceiling 1\n", 5) + task, api.ErrMany},
		{"machine 1 1 1 1\n" + strings.Repeat(task, 9), api.ErrMany},
		{"machine 1 1 1 1\n" + task + strings.Repeat("line 0\n", 9), api.ErrMany},
		{"machine 1 1 1 1\nmailbox 0\n" + task, api.ErrRange},
		{"machine 1 1 1 1\ncount 9\n" + task, api.ErrRange},
		{"machine 1 1 1 1\nceiling 64\n" + task, api.ErrRange},
		{"machine 1 1 1 1\n" + task + "line 1\n", api.ErrRange},
		{"machine 1 1 1 1\nline 0\n", api.ErrArg},
		{"machine 1 1 1 1\ntask 2 1 9 9 0 0 compute 5\n", api.ErrRange},
		{"machine 1 1 1 1\ntask 1 1 9 10 0 0 compute 5\n", api.ErrRange},
		{"machine 1 1 1 1\ntask 1 1 9 9 0 0 compute 1001\n", api.ErrRange},
		{"machine 1 1 1 1\ntask 1 1 9 9 0 0 enter\n", api.ErrNest},
		{"machine 1 1 1 1\ntask 1 1 9 9 0 0 enter" + strings.Repeat(";exit", 64) + "\n", api.ErrMany},
		{"machine 1 1 1 1\nceiling 0\ntask 1 1 9 9 0 0 lock 0;unlock 0\n", api.ErrNest},
		{"machine 1 1 1 1\n" + task + task, api.ErrTwice},
	} {
		if c, e := Parse(x.text); e != x.e || told(c) != told(api.Config{}) {
			t.Errorf("Parse(%q) is %s, %d, want %d", x.text, told(c), e, x.e)
		}
	}
}

// refuses asks whether texts are refused as such.
func refuses(t *testing.T, l ...string) {
	t.Helper()
	for _, s := range l {
		if c, e := Parse(s); e != api.ErrForm || told(c) != told(api.Config{}) {
			t.Errorf("Parse(%q) is %s, %d", s, told(c), e)
		}
	}
}

func TestParseOfWrongTexts(t *testing.T) {
	refuses(t, "", "\n", " ", "machine", "machine\n", "machine 1 1 1 1", "nothing 1\n", "compute 5\n", "\x00", "\xff\n",
		smallText[:len(smallText)-1], smallText+"\n", "\n"+smallText, smallText+" ", " "+smallText, smallText+"\x00", smallText+smallText,
		strings.ReplaceAll(smallText, "\n", "\r\n"), strings.ReplaceAll(smallText, "\n", "\n\n"), strings.ReplaceAll(smallText, "\n", " \n"),
		strings.ReplaceAll(smallText, "\n", ";"), strings.ReplaceAll(smallText, "\n", ""), strings.ReplaceAll(smallText, " ", "  "), strings.ReplaceAll(smallText, " ", "\t"),
		strings.ToUpper(smallText), strings.TrimPrefix(smallText, "machine 1 1 1 1\n"))
}

func TestParseOfWrongLines(t *testing.T) {
	wrong := []string{
		"", " ", "# a remark", "machine 1 1 1 1", "mailboxes 1", "mail 1", "mailbox1", "Mailbox 1", " mailbox 1",
		"mailbox", "mailbox ", "mailbox 1 ", "mailbox  1", "mailbox 1 1", "mailbox 1;", "mailbox x", "mailbox 01", "mailbox 00", "mailbox -1", "mailbox -0", "mailbox +1", "mailbox 1.0", "mailbox 0x1", "mailbox 1_0", "mailbox 1e0",
		"mailbox 1000000000", "mailbox 0000000001", "mailbox 9999999999", "mailbox 99999999999999999999999999", "mailbox \t1", "mailbox １", "mailbox 1\r", "mailbox 1\x00",
		"group 1", "groups", "groups ", "groups 1 1", "groups 01", "groups -1", "groups 0", "groups 00", "groups 1 ", "groups 1 compute 5",
		"count", "counts 1", "count 1 1", "count 1 compute 5", "count -1", "ceiling", "ceilings 1", "ceiling 1 1", "ceiling x", "ceiling 01", "ceiling 5 enter",
	}
	for _, line := range wrong {
		refuses(t, strings.Replace(smallText, "task", line+"\ntask", 1))
	}
	for _, line := range []string{"line", "line ", "line 0 0", "line 00", "line -0", "line x", "lines 0", "line 0 compute 5", "line  0", "line 0 ", "until 5"} {
		refuses(t, smallText+line+"\n", smallText+line)
	}
	for _, line := range []string{"machine", "machine 1", "machine 1 1", "machine 1 1 1", "machine 1 1 1 ", "machine 1 1 1 1 ", "machine 1 1 1 1 1", "machine 1  1 1 1", "machine 1 1 1 01", "machine 1 1 1 x", "machine 1 1 1 -1", "machine 1 1 1 1000000000", "machine 1 1 1 1 compute 5", "machines 1 1 1 1", "machin 1 1 1 1", "machine1 1 1 1 1"} {
		refuses(t, strings.Replace(smallText, "machine 1 1 1 1", line, 1))
	}
}

func TestParseOfWrongTasks(t *testing.T) {
	for _, line := range []string{
		"task", "task ", "task compute 5", "task 1 1 9 9 0", "task 1 1 9 9 0 0", "task 1 1 9 9 0 0 ", "task 1 1 9 9 0 0 0", "task 1 1 9 9 0 compute 5", "task 1 1 9 9 0 0 0 compute 5",
		"task 1 1 9 9 0 0  compute 5", "task  1 1 9 9 0 0 compute 5", "task 1 1 9  9 0 0 compute 5", "task 1 1 9 9 0 0 compute 5 ", "task 1 1 9 9 0 0 compute 5;", "task 1 1 9 9 0 0 ;compute 5", "task 1 1 9 9 0 0 compute 5; compute 5",
		"task 1 1 9 9 0 0;compute 5", "task 1 1 9 9 0 0compute 5", "task 1 1 9 9 0 0 compute", "task 1 1 9 9 0 0 compute 05", "task 1 1 9 9 0 0 compute -5", "task 1 1 9 9 0 0 compute 5 5", "task 1 1 9 9 0 0 compute 1000000000", "task 1 1 9 9 0 0 idle", "task 1 1 9 9 0 0 COMPUTE 5",
		"task 01 1 9 9 0 0 compute 5", "task 1 1 9 9 0 00 compute 5", "task 1 1 9 9 0 -0 compute 5", "task 1 1 9 9 -1 0 compute 5", "task x 1 9 9 0 0 compute 5", "task 1 1 1000000000 9 0 0 compute 5", "tasks 1 1 9 9 0 0 compute 5",
	} {
		refuses(t, strings.Replace(smallText, "task 1 1 9 9 0 0 compute 5", line, 1))
	}
}

// TestLinesStandInOrder: any line that goes to another place among lines of other kinds is refused there.
func TestLinesStandInOrder(t *testing.T) {
	lines := strings.SplitAfter(strings.TrimSuffix(wholeText, "\n"), "\n")
	lines[len(lines)-1] += "\n"
	word := func(i int) string { return strings.Fields(lines[i])[0] }
	for i := range lines {
		for j := i + 1; j < len(lines); j++ {
			if word(i) == word(j) {
				continue
			}
			l := slices.Clone(lines)
			l[i], l[j] = l[j], l[i]
			refuses(t, strings.Join(l, ""))
		}
		refuses(t, lines[i]+wholeText)
		if word(i) != "line" {
			refuses(t, wholeText+lines[i])
		}
	}
	for _, once := range []string{"machine 4 2 3 10\n", "groups 3\n"} {
		refuses(t, strings.Replace(wholeText, once, once+once, 1))
	}
	refuses(t, strings.Replace(wholeText, "machine 4 2 3 10\n", "", 1))
}

// TestOneSignChanged: what Parse reads has one text alone, so a text that is changed anywhere is refused, or is the text of another configuration.
func TestOneSignChanged(t *testing.T) {
	const text = "machine 1 2 3 10\nmailbox 2\ngroups 1\ncount 3\nceiling 5\ntask 1 2 20 10 5 0 lock 0;unlock 0\nline 0\n"
	c, e := Parse(text)
	if e != api.OK {
		t.Fatal(e)
	}
	for i := range len(text) {
		for sign := range 256 {
			for _, s := range []string{
				text[:i] + string([]byte{byte(sign)}) + text[i+1:],
				text[:i] + string([]byte{byte(sign)}) + text[i:],
				text[:i] + text[i+1:],
			} {
				other, e := Parse(s)
				if e != api.OK {
					if told(other) != told(api.Config{}) {
						t.Fatalf("Parse(%q) is %s beside %d", s, told(other), e)
					}
					continue
				}
				if back, e := Text(other); back != s || e != api.OK || Same(other, c) != (s == text) {
					t.Fatalf("Parse(%q) is %s, whose text is %q", s, told(other), back)
				}
			}
		}
	}
}

// drawn is a configuration that may be, of a row of numbers.
func drawn(draw func(n int) int) api.Config {
	row := func(most, least, span int) []int {
		var l []int
		for range draw(most + 1) {
			l = append(l, least+draw(span))
		}
		return l
	}
	hit := 1 + draw(100)
	c := api.Config{
		Machine:   api.Machine{Sets: 1 + draw(16), Ways: 1 + draw(4), Hit: hit, Miss: hit + draw(101-hit)},
		Mailboxes: row(4, 1, 8),
		Groups:    draw(5),
		Counts:    row(4, 1, 8),
		Ceilings:  row(4, 40, 24),
	}
	for i := range 1 + draw(8) {
		period := 1 + draw(1<<20)
		task := api.Task{Priority: 5*i + draw(5), Period: period, Deadline: 1 + draw(period), Frame: draw(4097), Float: draw(1<<20 + 1)}
		task.Threshold = task.Priority + draw(64-task.Priority)
		for range 1 + draw(60) {
			task.Program = withMore(task.Program, Room(c), draw)
		}
		if len(task.Program) == 0 {
			task.Program = []api.Op{op(api.OpEnter), op(api.OpExit)}
		}
		c.Tasks = append(c.Tasks, task)
	}
	c.Lines = row(8, 0, len(c.Tasks))
	return c
}

// withMore is a program that may be with an operation more, or two of them round it, if that may be; else without.
func withMore(l []api.Op, r prog.Room, draw func(n int) int) []api.Op {
	var more []api.Op
	switch i := draw(4); draw(8) {
	case 0:
		more = append(append(append(more, op(api.OpEnter)), l...), op(api.OpExit))
	case 1:
		more = append(append(append(more, op(api.OpLock, i)), l...), op(api.OpUnlock, i))
	default:
		more = append(append(more, l...), op(1+draw(api.OpKinds), draw(1001)>>draw(10), draw(256)*draw(2)))
	}
	if prog.Check(more, r) != api.OK {
		return l
	}
	return more
}

// plainText is a text made in another way than the program's.
func plainText(c api.Config) string {
	var l []string
	line := func(word string, rest []string, n ...int) {
		parts := []string{word}
		for _, x := range n {
			parts = append(parts, strconv.FormatInt(int64(x), 10))
		}
		l = append(l, strings.Join(append(parts, rest...), " "))
	}
	line("machine", nil, c.Machine.Sets, c.Machine.Ways, c.Machine.Hit, c.Machine.Miss)
	for _, n := range c.Mailboxes {
		line("mailbox", nil, n)
	}
	if c.Groups > 0 {
		line("groups", nil, c.Groups)
	}
	for _, n := range c.Counts {
		line("count", nil, n)
	}
	for _, n := range c.Ceilings {
		line("ceiling", nil, n)
	}
	for _, x := range c.Tasks {
		program, _ := prog.Text(x.Program)
		line("task", []string{program}, x.Priority, x.Threshold, x.Period, x.Deadline, x.Frame, x.Float)
	}
	for _, n := range c.Lines {
		line("line", nil, n)
	}
	return strings.Join(l, "\n") + "\n"
}

func TestWhatMayBeIsReadOfItsText(t *testing.T) {
	seed := uint32(7)
	draw := func(n int) int {
		seed = seed*1664525 + 1013904223
		return int(seed>>8) % n
	}
	for range 500 {
		c := drawn(draw)
		if e := Check(c); e != api.OK {
			t.Fatalf("%s: %d", told(c), e)
		}
		goesBoth(t, c, plainText(c))
	}
}

func TestAnswersShareNothing(t *testing.T) {
	a, _ := Parse(wholeText)
	b, _ := Parse(wholeText)
	a.Mailboxes[0], a.Counts[0], a.Ceilings[0], a.Lines[0], a.Tasks[0].Frame, a.Tasks[0].Program[0].A = 5, 5, 5, 1, 5, 1
	for _, l := range [][]int{a.Mailboxes, a.Counts, a.Ceilings, a.Lines} {
		_ = append(l[:1], 77)
	}
	if told(b) != told(whole()) {
		t.Error(told(b))
	}
	l := Order(b)
	l[0] = 99
	if got := Order(b); !slices.Equal(got, []int{1, 0, 2}) {
		t.Error(got)
	}
}
