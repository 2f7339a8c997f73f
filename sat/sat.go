// Package sat is layer 1: saturating arithmetic, numbers that stop at the greatest.
package sat

import (
	"math/bits"

	"signalbox/api"
)

// mostSteps bounds how far Least goes up, so that it ends whatever the step is.
const mostSteps = 1 << 20

// Add is a and b together.
func Add(a, b uint64) uint64 {
	sum := a + b
	if sum < a { // only a sum that wrapped round is below its parts
		return api.Unbounded
	}
	return sum
}

// Mul is a times b.
func Mul(a, b uint64) uint64 {
	over, product := bits.Mul64(a, b)
	if over != 0 {
		return api.Unbounded
	}
	return product
}

// Sub is a less b. What is Unbounded stays so, whatever is taken away: nothing is known of how great it is.
func Sub(a, b uint64) uint64 {
	switch {
	case a == api.Unbounded:
		return api.Unbounded
	case b >= a:
		return 0
	}
	return a - b
}

// Ceil is how many times b, at least, make a.
func Ceil(a, b uint64) uint64 {
	switch {
	case a == 0:
		return 0
	case b == 0, a == api.Unbounded:
		return api.Unbounded
	}
	// not (a + b - 1) / b, which would wrap round
	return (a-1)/b + 1
}

// Sum is all numbers together; 0 of none.
func Sum(l ...uint64) uint64 {
	var sum uint64
	for _, n := range l {
		sum = Add(sum, n)
	}
	return sum
}

// Of is n, or 0 if n is below 0.
func Of(n int) uint64 {
	return uint64(max(n, 0))
}

// Least goes up from a number by steps, till a step goes no higher: where that was, and true.
// It is Unbounded and false if a number above most comes, or if there is no end within the steps that are allowed.
func Least(step func(x uint64) uint64, from, most uint64) (uint64, bool) {
	x, ok := climb(step, from, most)
	if !ok {
		return api.Unbounded, false
	}
	return x, true
}

// climb does Least's work. The step is the caller's: one that panics, or is nil, finds nothing.
func climb(step func(x uint64) uint64, from, most uint64) (x uint64, ok bool) {
	defer func() {
		if recover() != nil {
			ok = false
		}
	}()
	if from > most {
		return from, false
	}
	x = from
	for range mostSteps {
		next := step(x)
		if next <= x {
			return x, true
		}
		if next > most {
			return next, false
		}
		x = next
	}
	return x, false
}
