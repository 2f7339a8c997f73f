// Package twin copies configurations, so that neither hand sees what the other one changes.
package twin

import (
	"slices"

	"signalbox/api"
)

// Config is a configuration in new memory.
func Config(c api.Config) api.Config {
	c.Mailboxes = slices.Clone(c.Mailboxes)
	c.Counts = slices.Clone(c.Counts)
	c.Ceilings = slices.Clone(c.Ceilings)
	c.Tasks = Tasks(c.Tasks)
	c.Lines = slices.Clone(c.Lines)
	return c
}

// Tasks are tasks in new memory, their programs too.
func Tasks(l []api.Task) []api.Task {
	l = slices.Clone(l)
	for i := range l {
		l[i].Program = slices.Clone(l[i].Program)
	}
	return l
}
