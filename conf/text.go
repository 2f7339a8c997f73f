package conf

import (
	"strconv"

	"signalbox/api"
	"signalbox/prog"
)

// The words at the lines' beginnings.
const (
	machineWord = "machine"
	mailboxWord = "mailbox"
	groupsWord  = "groups"
	countWord   = "count"
	ceilingWord = "ceiling"
	taskWord    = "task"
	lineWord    = "line"
)

const (
	ahead   = " "  // of numbers, and of programs
	lineEnd = "\n" // of each line, the last one too
)

// Text is a configuration's, if it may be.
func Text(c api.Config) (string, api.Errno) {
	if e := Check(c); e != api.OK {
		return "", e
	}
	m := c.Machine
	s := headOf(machineWord, m.Sets, m.Ways, m.Hit, m.Miss) + lineEnd
	s += linesOf(mailboxWord, c.Mailboxes...)
	if c.Groups != 0 {
		s += linesOf(groupsWord, c.Groups)
	}
	s += linesOf(countWord, c.Counts...)
	s += linesOf(ceilingWord, c.Ceilings...)
	for _, t := range c.Tasks {
		s += taskLine(t)
	}
	s += linesOf(lineWord, c.Lines...)
	return s, api.OK
}

// headOf is a line's word with numbers behind it.
func headOf(word string, l ...int) string {
	s := word
	for _, n := range l {
		s += ahead + strconv.Itoa(n)
	}
	return s
}

// linesOf are lines of one word, each with one of the numbers.
func linesOf(word string, l ...int) string {
	s := ""
	for _, n := range l {
		s += headOf(word, n) + lineEnd
	}
	return s
}

// taskLine is a task's line. Its program must be one that may be, as that has a text.
func taskLine(t api.Task) string {
	f := figures(t)
	program, _ := prog.Text(t.Program)
	return headOf(taskWord, f[:]...) + ahead + program + lineEnd
}
