package twin

import (
	"reflect"
	"testing"

	"signalbox/api"
)

// full is a configuration that has some of all.
func full() api.Config {
	return api.Config{
		Machine:   api.Machine{Sets: 2, Ways: 3, Hit: 4, Miss: 5},
		Mailboxes: []int{6, 7},
		Groups:    2,
		Counts:    []int{8},
		Ceilings:  []int{9, 10, 11},
		Tasks: []api.Task{
			{Priority: 1, Threshold: 2, Period: 90, Deadline: 80, Frame: 70, Float: 60, Program: []api.Op{{Kind: 1, A: 5}, {Kind: 9, A: 1, B: 2}}},
			{Priority: -3, Program: []api.Op{{Kind: 99, A: -1, B: -2}}},
			{},
		},
		Lines: []int{1, 0, 12},
	}
}

// spoil changes all that a configuration refers to.
func spoil(c api.Config) {
	for _, l := range [][]int{c.Mailboxes, c.Counts, c.Ceilings, c.Lines} {
		for i := range l {
			l[i] = -9
		}
	}
	for i := range c.Tasks {
		for o := range c.Tasks[i].Program {
			c.Tasks[i].Program[o] = api.Op{Kind: -9}
		}
		c.Tasks[i] = api.Task{Priority: -9}
	}
}

func TestConfig(t *testing.T) {
	c := full()
	if got := Config(c); !reflect.DeepEqual(got, full()) {
		t.Errorf("%v of %v", got, full())
	}
	spoil(Config(c))
	if !reflect.DeepEqual(c, full()) {
		t.Errorf("%v is changed by its twin: %v", full(), c)
	}
	got := Config(c)
	spoil(c)
	if !reflect.DeepEqual(got, full()) {
		t.Errorf("the twin of %v is changed by it: %v", full(), got)
	}
}

func TestTasks(t *testing.T) {
	l := full().Tasks
	got := Tasks(l)
	if !reflect.DeepEqual(got, full().Tasks) {
		t.Errorf("%v of %v", got, full().Tasks)
	}
	spoil(api.Config{Tasks: got})
	if !reflect.DeepEqual(l, full().Tasks) {
		t.Errorf("%v is changed by its twin: %v", full().Tasks, l)
	}
}

func TestOfNothing(t *testing.T) {
	if got := Config(api.Config{}); !reflect.DeepEqual(got, api.Config{}) {
		t.Error(got)
	}
	if got := Tasks(nil); len(got) != 0 {
		t.Error(got)
	}
}
