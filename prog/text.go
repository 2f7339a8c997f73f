package prog

import (
	"strconv"
	"strings"

	"signalbox/api"
)

const (
	between    = ";" // of operations
	ahead      = " " // of numbers
	mostDigits = 9   // of a number that is read
)

// Text is a program's; false if an operation has none.
func Text(l []api.Op) (string, bool) {
	var b strings.Builder
	for i, o := range l {
		s, ok := textOf(o)
		if !ok {
			return "", false
		}
		if i > 0 {
			b.WriteString(between)
		}
		b.WriteString(s)
	}
	return b.String(), true
}

// Parse reads a program of its text. Whether the program may be isn't asked.
func Parse(s string) ([]api.Op, api.Errno) {
	var l []api.Op
	for more := true; more; {
		var part string
		part, s, more = strings.Cut(s, between)
		o, ok := opOf(part)
		if !ok {
			return nil, api.ErrForm
		}
		l = append(l, o)
	}
	return l, api.OK
}

// textOf is an operation's text; false if it is of no kind, or has a number that its text can't tell.
func textOf(o api.Op) (string, bool) {
	count := Numbers(o.Kind)
	if count < 0 {
		return "", false
	}
	s := words[o.Kind].name
	for i, n := range [...]int{o.A, o.B} {
		switch {
		case n < 0, i >= count && n != 0:
			return "", false
		case i < count:
			s += ahead + strconv.Itoa(n)
		}
	}
	return s, true
}

// opOf reads an operation of its text.
func opOf(s string) (api.Op, bool) {
	name, rest, more := strings.Cut(s, ahead)
	kind, ok := kindOf(name)
	if !ok {
		return api.Op{}, false
	}
	var numbers [2]int
	for i := range Numbers(kind) {
		var digits string
		digits, rest, more = strings.Cut(rest, ahead) // of nothing more no digits, which are no number
		if numbers[i], ok = numberOf(digits); !ok {
			return api.Op{}, false
		}
	}
	if more {
		return api.Op{}, false
	}
	return api.Op{Kind: kind, A: numbers[0], B: numbers[1]}, true
}

// kindOf is the kind of a name; false if it is none's.
func kindOf(name string) (int, bool) {
	for kind := 1; kind <= api.OpKinds; kind++ {
		if words[kind].name == name {
			return kind, true
		}
	}
	return 0, false
}

// numberOf reads a number of its decimal digits, which are few, and have no needless nought ahead.
func numberOf(s string) (int, bool) {
	if s == "" || len(s) > mostDigits || s[0] == '0' && len(s) > 1 {
		return 0, false
	}
	n := 0
	for i := range len(s) {
		if s[i] < '0' || s[i] > '9' {
			return 0, false
		}
		n = 10*n + int(s[i]-'0')
	}
	return n, true
}
