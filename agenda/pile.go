package agenda

import (
	"signalbox/api"
)

// entry is an event and its turn: how many were put ahead of it, as a heap by itself keeps no order among those of one At.
type entry struct {
	event api.Event
	turn  uint64
}

// pile is what container/heap asks for, to keep the first one at the beginning.
type pile struct {
	entries []entry
	turns   uint64
}

func (p *pile) Len() int { return len(p.entries) }

func (p *pile) Less(i, j int) bool {
	a, b := p.entries[i], p.entries[j]
	if a.event.At != b.event.At {
		return a.event.At < b.event.At
	}
	return a.turn < b.turn
}

func (p *pile) Swap(i, j int) {
	p.entries[i], p.entries[j] = p.entries[j], p.entries[i]
}

// Push lays an event behind the last entry, or a row of events, each with its turn.
func (p *pile) Push(x any) {
	switch x := x.(type) {
	case api.Event:
		p.lay(x)
	case []api.Event:
		for _, e := range x {
			p.lay(e)
		}
	}
}

// Pop takes the last entry's event away.
func (p *pile) Pop() any {
	last := len(p.entries) - 1
	e := p.entries[last].event
	p.entries = p.entries[:last]
	return e
}

func (p *pile) lay(e api.Event) {
	p.entries = append(p.entries, entry{event: e, turn: p.turns})
	p.turns++
}
