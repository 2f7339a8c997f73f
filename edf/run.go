package edf

import (
	"cmp"
	"container/heap"
	"slices"
)

// mostNumber is the greatest that a work's numbers count as.
const mostNumber = 1 << 20

// stretch is ticks, from one up to ahead of another one, in which the work at a place goes on.
type stretch struct{ place, from, to int }

// ready is what container/heap asks for, to keep the work ahead that goes on next: the places of those that are released and not done.
type ready struct {
	works  []Work
	places []int
}

// stretches are who goes on from when to when, in order. As long as nobody is released and nobody is done, nobody else goes on: so they are few, however many ticks there are.
func stretches(l []Work) []stretch {
	r := &ready{works: bounded(l)} // their Costs go down to what is left
	coming := byRelease(r.works)
	var told []stretch
	for now := 0; len(coming) > 0 || r.Len() > 0; {
		if r.Len() == 0 {
			now = r.works[coming[0]].Release
		}
		coming = r.let(coming, now)
		s := stretch{place: heap.Pop(r).(int), from: now}
		s.to = now + r.works[s.place].Cost
		if len(coming) > 0 {
			s.to = min(s.to, r.works[coming[0]].Release)
		}
		told = append(told, s)
		r.goOn(s)
		now = s.to
	}
	return told
}

// let takes in those of the coming ones that are released by now, and answers the others.
func (r *ready) let(coming []int, now int) []int {
	for len(coming) > 0 && r.works[coming[0]].Release <= now {
		heap.Push(r, coming[0])
		coming = coming[1:]
	}
	return coming
}

// goOn takes a stretch off what its work has left, and the work in again, if that isn't all.
func (r *ready) goOn(s stretch) {
	r.works[s.place].Cost -= s.to - s.from
	if r.works[s.place].Cost > 0 {
		heap.Push(r, s.place)
	}
}

func (r *ready) Len() int { return len(r.places) }

// Less goes by who is due earlier, of several by who stands first in the row.
func (r *ready) Less(i, j int) bool {
	a, b := r.places[i], r.places[j]
	if r.works[a].Due != r.works[b].Due {
		return r.works[a].Due < r.works[b].Due
	}
	return a < b
}

func (r *ready) Swap(i, j int) {
	r.places[i], r.places[j] = r.places[j], r.places[i]
}

// Push lays a place behind the last one.
func (r *ready) Push(x any) {
	r.places = append(r.places, x.(int))
}

// Pop takes the last place away.
func (r *ready) Pop() any {
	last := len(r.places) - 1
	place := r.places[last]
	r.places = r.places[:last]
	return place
}

// byRelease are the places of the works that take a tick at least, in the order of their releases.
func byRelease(l []Work) []int {
	var places []int
	for place, w := range l {
		if w.Cost > 0 {
			places = append(places, place)
		}
	}
	slices.SortStableFunc(places, func(a, b int) int { return cmp.Compare(l[a].Release, l[b].Release) })
	return places
}

// bounded are works with the numbers that theirs count as.
func bounded(l []Work) []Work {
	works := make([]Work, len(l))
	for place, w := range l {
		works[place] = Work{Release: nearest(w.Release), Cost: nearest(w.Cost), Due: nearest(w.Due)}
	}
	return works
}

// nearest is the nearest number that a work's may be.
func nearest(n int) int {
	return min(max(n, 0), mostNumber)
}
