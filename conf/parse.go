package conf

import (
	"math"
	"strconv"
	"strings"

	"signalbox/api"
	"signalbox/prog"
)

const (
	mostDigits = 9           // of a number that is read
	many       = math.MaxInt // lines: more than any text has
)

// kind is a kind of line: its word, how many lines of it a text has at least and at most, how many numbers stand behind the word, and the method that takes a line's numbers in, with what stands behind them.
type kind struct {
	word        string
	least, most int
	numbers     int
	take        func(d *draft, tail string, n ...int) bool
}

// kinds are the lines' kinds, in the order in which a text has them.
func kinds() [7]kind {
	return [...]kind{
		{machineWord, 1, 1, 4, (*draft).machine},
		{mailboxWord, 0, many, 1, (*draft).mailbox},
		{groupsWord, 0, 1, 1, (*draft).groups},
		{countWord, 0, many, 1, (*draft).count},
		{ceilingWord, 0, many, 1, (*draft).ceiling},
		{taskWord, 0, many, 6, (*draft).task},
		{lineWord, 0, many, 1, (*draft).line},
	}
}

// Parse reads a configuration of its text.
func Parse(s string) (api.Config, api.Errno) {
	d := &draft{rest: s}
	for _, k := range kinds() {
		if !d.read(k) {
			return api.Config{}, api.ErrForm
		}
	}
	if d.rest != "" {
		return api.Config{}, api.ErrForm
	}
	if e := Check(d.config); e != api.OK {
		return api.Config{}, e
	}
	return d.config, api.OK
}

// draft is a configuration that is read, and what of its text isn't read yet.
type draft struct {
	config api.Config
	rest   string
}

// read reads all lines of a kind that come next; false if they are too few, or one is not as told.
func (d *draft) read(k kind) bool {
	count := 0
	for count < k.most {
		behind, is := strings.CutPrefix(d.rest, k.word)
		if !is {
			break
		}
		line, rest, ends := strings.Cut(behind, lineEnd)
		l, tail, ok := numbersOf(line, k.numbers)
		if !ends || !ok || !k.take(d, tail, l...) {
			return false
		}
		d.rest = rest
		count++
	}
	return count >= k.least
}

func (d *draft) machine(tail string, n ...int) bool {
	d.config.Machine = api.Machine{Sets: n[0], Ways: n[1], Hit: n[2], Miss: n[3]}
	return tail == ""
}

func (d *draft) mailbox(tail string, n ...int) bool {
	d.config.Mailboxes = append(d.config.Mailboxes, n...)
	return tail == ""
}

// groups refuses 0, as a configuration without groups has no such line.
func (d *draft) groups(tail string, n ...int) bool {
	d.config.Groups = n[0]
	return tail == "" && n[0] != 0
}

func (d *draft) count(tail string, n ...int) bool {
	d.config.Counts = append(d.config.Counts, n...)
	return tail == ""
}

func (d *draft) ceiling(tail string, n ...int) bool {
	d.config.Ceilings = append(d.config.Ceilings, n...)
	return tail == ""
}

func (d *draft) task(tail string, n ...int) bool {
	text, more := strings.CutPrefix(tail, ahead)
	program, e := prog.Parse(text)
	if !more || e != api.OK {
		return false
	}
	d.config.Tasks = append(d.config.Tasks, api.Task{
		Priority:  n[0],
		Threshold: n[1],
		Period:    n[2],
		Deadline:  n[3],
		Frame:     n[4],
		Float:     n[5],
		Program:   program,
	})
	return true
}

func (d *draft) line(tail string, n ...int) bool {
	d.config.Lines = append(d.config.Lines, n...)
	return tail == ""
}

// numbersOf reads so many numbers, each with a blank ahead, and tells what stands behind them.
func numbersOf(s string, count int) ([]int, string, bool) {
	var l []int
	for range count {
		behind, is := strings.CutPrefix(s, ahead)
		digits, _, _ := strings.Cut(behind, ahead)
		n, ok := numberOf(digits)
		if !is || !ok {
			return nil, "", false
		}
		l = append(l, n)
		s = behind[len(digits):]
	}
	return l, s, true
}

// numberOf reads a number of its few decimal digits; it is held against what it would be written as, which tells off signs and needless noughts.
func numberOf(s string) (int, bool) {
	n, err := strconv.Atoi(s)
	return n, err == nil && n >= 0 && len(s) <= mostDigits && strconv.Itoa(n) == s
}
