package prog

import (
	"math"
	"slices"
	"strconv"
	"strings"
	"testing"

	"signalbox/api"
)

func TestExample(t *testing.T) {
	l := []api.Op{{Kind: api.OpCompute, A: 5}, {Kind: api.OpEnter}, {Kind: api.OpExit}}
	const text = "compute 5;enter;exit"
	if s, ok := Text(l); s != text || !ok {
		t.Error(s, ok)
	}
	if got, e := Parse(text); !slices.Equal(got, l) || e != api.OK {
		t.Error(got, e)
	}
}

func TestTextOfEachOperation(t *testing.T) {
	for kind, k := range kinds() {
		for _, a := range edges() {
			for _, b := range edges() {
				o := api.Op{Kind: kind, A: a, B: b}
				want, has := k.name, a >= 0 && b >= 0
				if k.numbers > 0 {
					want += " " + strconv.Itoa(a)
				} else {
					has = has && a == 0
				}
				if k.numbers > 1 {
					want += " " + strconv.Itoa(b)
				} else {
					has = has && b == 0
				}
				if !has {
					want = ""
				}
				if s, ok := Text([]api.Op{o}); s != want || ok != has {
					t.Errorf("Text(%v) is %q, %v, want %q, %v", o, s, ok, want, has)
				}
				readsBack(t, o, want, has && a <= 999999999 && b <= 999999999)
			}
		}
	}
}

// readsBack asks whether an operation is read of its text, or, of numbers that are too long, isn't.
func readsBack(t *testing.T, o api.Op, text string, short bool) {
	t.Helper()
	l, e := Parse(text)
	if short && (e != api.OK || len(l) != 1 || l[0] != o) || !short && (e != api.ErrForm || len(l) != 0) {
		t.Errorf("Parse(%q) is %v, %d", text, l, e)
	}
}

func TestTextOfNone(t *testing.T) {
	for _, l := range [][]api.Op{nil, {}} {
		if s, ok := Text(l); s != "" || !ok {
			t.Errorf("%q, %v", s, ok)
		}
	}
}

func TestTextOfWrongOperations(t *testing.T) {
	wrong := []api.Op{{Kind: 1, A: -1}, {Kind: 1, A: 1, B: 1}, {Kind: 3, A: 1}, {Kind: 3, B: 1}, {Kind: 4, A: -1}, {Kind: 9, A: 1, B: -1}, {Kind: 10, B: math.MinInt}}
	for _, kind := range strangers() {
		wrong = append(wrong, api.Op{Kind: kind})
	}
	for _, o := range wrong {
		good := api.Op{Kind: 3}
		for _, l := range [][]api.Op{{o}, {o, good}, {good, o}, {good, o, good}} {
			before := slices.Clone(l)
			if s, ok := Text(l); s != "" || ok {
				t.Errorf("Text(%v) is %q, %v", l, s, ok)
			}
			if !slices.Equal(l, before) {
				t.Errorf("%v is changed: %v", before, l)
			}
		}
	}
}

func TestParse(t *testing.T) {
	for text, want := range map[string][]api.Op{
		"enter":                      {{Kind: 3}},
		"compute 0":                  {{Kind: 1}},
		"compute 999999999":          {{Kind: 1, A: 999999999}},
		"exit;exit":                  {{Kind: 4}, {Kind: 4}},
		"unlock 7;pop 9000;lock 7":   {{Kind: 6, A: 7}, {Kind: 8, A: 9000}, {Kind: 5, A: 7}},
		"send 0 0;test 10 100;enter": {{Kind: 9}, {Kind: 13, A: 10, B: 100}, {Kind: 3}},
		"set 999999999 999999999":    {{Kind: 11, A: 999999999, B: 999999999}},
		"access 20;push 1;recv 3;clear 1 2;give 0;take 10": {
			{Kind: 2, A: 20}, {Kind: 7, A: 1}, {Kind: 10, A: 3}, {Kind: 12, A: 1, B: 2}, {Kind: 14}, {Kind: 15, A: 10}},
	} {
		if l, e := Parse(text); !slices.Equal(l, want) || e != api.OK {
			t.Errorf("Parse(%q) is %v, %d, want %v", text, l, e, want)
		}
		if s, ok := Text(want); s != text || !ok {
			t.Errorf("Text(%v) is %q, %v, want %q", want, s, ok, text)
		}
	}
}

func TestParseOfWrongTexts(t *testing.T) {
	for _, s := range []string{
		"", " ", ";", ";;", "\n", "\x00", "0", "5", "1 5",
		"enter;", ";enter", "enter;;exit", "enter; exit", "enter ;exit", "enter;exit\n", "enter,exit", "enter:exit", "enter exit", "enter\nexit",
		"Enter", "ENTER", "ente", "enterr", "entér", "énter", "nothing", "computer 5", "comput 5", "enterexit",
		"enter ", " enter", "enter 0", "enter 1", "exit 0", "enter  ",
		"compute", "compute ", "compute  5", "compute 5 ", " compute 5", "compute 5 0", "compute 5 6", "compute5", "compute\t5", "compute,5",
		"compute x", "compute 5x", "compute x5", "compute -5", "compute -0", "compute +5", "compute 5.0", "compute 1e3", "compute 0x5", "compute 1_0",
		"compute 00", "compute 05", "compute 005", "compute 0000000001", "compute 1000000000", "compute 9999999999", "compute 99999999999999999999999",
		"compute ５", "compute ٥", "compute /", "compute :", "compute 5\x00", "compute \xff",
		"send", "send 1", "send 1 ", "send  1 2", "send 1  2", "send 1 2 ", "send 1 2 3", "send 01 2", "send 1 02", "send 1 -2", "send 1000000000 1", "send 1 1000000000", "send 1;2",
		"recv 1 2", "give", "take 1 0", "set 1", "clear 1", "test 1", "lock", "unlock", "push", "pop", "access",
		"compute 5;compute", "compute 5;enter;exi", "compute;5",
	} {
		if l, e := Parse(s); len(l) != 0 || e != api.ErrForm {
			t.Errorf("Parse(%q) is %v, %d", s, l, e)
		}
	}
}

func TestParseAsksNotWhatMayBe(t *testing.T) {
	const many = 1000
	text := strings.Repeat("exit;", many-1) + "pop 5000"
	l, e := Parse(text)
	if len(l) != many || e != api.OK || l[0] != (api.Op{Kind: 4}) || l[many-1] != (api.Op{Kind: 8, A: 5000}) {
		t.Fatal(len(l), e)
	}
	if s, ok := Text(l); s != text || !ok {
		t.Error(len(s), ok)
	}
}

// TestOneSignChanged: what Parse reads has one text alone, so a text that is changed anywhere is refused, or is the text of another program.
func TestOneSignChanged(t *testing.T) {
	const text = "compute 10;enter;send 1 20;exit;set 0 7"
	whole := of(t, text)
	for i := range len(text) {
		for sign := range 256 {
			for _, s := range []string{
				text[:i] + string([]byte{byte(sign)}) + text[i+1:],
				text[:i] + string([]byte{byte(sign)}) + text[i:],
				text[:i] + text[i+1:],
			} {
				l, e := Parse(s)
				if e != api.OK && (e != api.ErrForm || len(l) != 0) {
					t.Fatalf("Parse(%q) is %v, %d", s, l, e)
				}
				if back, ok := Text(l); e == api.OK && (back != s || !ok || slices.Equal(l, whole) != (s == text)) {
					t.Fatalf("Parse(%q) is %v, whose text is %q", s, l, back)
				}
			}
		}
	}
}

func TestProgramsAreReadOfTheirTexts(t *testing.T) {
	seed := uint32(5)
	draw := func(n int) int {
		seed = seed*1664525 + 1013904223
		return int(seed>>8) % n
	}
	for range 500 {
		var l []api.Op
		for range 1 + draw(2*api.MaxOps) {
			o := api.Op{Kind: 1 + draw(api.OpKinds)}
			if Numbers(o.Kind) > 0 {
				o.A = draw(1000000000) >> draw(30)
			}
			if Numbers(o.Kind) > 1 {
				o.B = draw(1000000000) >> draw(30)
			}
			l = append(l, o)
		}
		s, ok := Text(l)
		if !ok {
			t.Fatalf("%v has no text", l)
		}
		if back, e := Parse(s); !slices.Equal(back, l) || e != api.OK {
			t.Fatalf("%q is read as %v, %d", s, back, e)
		}
	}
}

func TestAnswersShareNothing(t *testing.T) {
	const text = "compute 5;exit"
	a, b := of(t, text), of(t, text)
	a[0].A = 9
	_ = append(a[:1], api.Op{Kind: 99})
	if s, ok := Text(b); s != text || !ok {
		t.Error(s, ok)
	}
}
