// Package band is layer 2: sets of priorities, stored as bitmaps.
package band

import (
	"math/bits"

	"signalbox/api"
)

const (
	wordBits  = 64 // priorities that one word has
	wordCount = api.MaxLevel/wordBits + 1
	none      = -1
)

// Set has priorities from 0 to MaxLevel. A nil one is empty, and stays so.
type Set struct {
	words [wordCount]uint64 // priority n is bit n modulo wordBits of word n by wordBits
}

// New is the set of these priorities; others are passed over.
func New(l ...int) *Set {
	s := &Set{}
	for _, n := range l {
		s.Put(n)
	}
	return s
}

// Put puts a priority in: whether that changed the set.
func (s *Set) Put(n int) bool {
	if s == nil || !isPriority(n) || s.Has(n) {
		return false
	}
	s.words[n/wordBits] |= bitOf(n)
	return true
}

// Drop takes a priority out: whether that changed the set.
func (s *Set) Drop(n int) bool {
	if !s.Has(n) {
		return false
	}
	s.words[n/wordBits] &^= bitOf(n)
	return true
}

// Has asks whether a priority is in the set.
func (s *Set) Has(n int) bool {
	return s != nil && isPriority(n) && s.words[n/wordBits]&bitOf(n) != 0
}

// Top is the greatest one; -1 if the set is empty.
func (s *Set) Top() int {
	if s == nil {
		return none
	}
	for i := wordCount - 1; i >= 0; i-- {
		if w := s.words[i]; w != 0 {
			return i*wordBits + wordBits - 1 - bits.LeadingZeros64(w)
		}
	}
	return none
}

// Above are those above n, the greatest first.
func (s *Set) Above(n int) []int {
	if s == nil {
		return nil
	}
	var l []int
	rest := *s // taken apart in place of the set, which stays as it is
	for top := rest.Top(); top > max(n, none); top = rest.Top() {
		l = append(l, top)
		rest.Drop(top)
	}
	return l
}

// Next is the least one above n; -1 if there is none.
func (s *Set) Next(n int) int {
	if s == nil || n >= api.MaxLevel {
		return none
	}
	first := max(n, none) + 1
	passed := bitOf(first) - 1 // the bits below the first one, in its own word
	for i := first / wordBits; i < wordCount; i++ {
		if w := s.words[i] &^ passed; w != 0 {
			return i*wordBits + bits.TrailingZeros64(w)
		}
		passed = 0
	}
	return none
}

// Len is how many there are.
func (s *Set) Len() int {
	if s == nil {
		return 0
	}
	count := 0
	for _, w := range s.words {
		count += bits.OnesCount64(w)
	}
	return count
}

// isPriority asks whether a set can have n.
func isPriority(n int) bool {
	return n >= 0 && n <= api.MaxLevel
}

// bitOf is a priority's bit in its word.
func bitOf(n int) uint64 {
	return 1 << (n % wordBits)
}
