// Package scalar is layer 1: see shared/doc/01-scalar.md.
package scalar

import (
	"unicode/utf8"

	"caesura/api"
)

// Is tells whether v is a scalar.
func Is(v int) bool {
	r := rune(v)
	// A number that is too wide for a rune loses its upper bits, and may look like a scalar without them.
	return int(r) == v && utf8.ValidRune(r)
}

// Next tells the least scalar above v; false, if there is none.
func Next(v int) (int, bool) {
	switch {
	case v < 0:
		return 0, true
	case v >= api.MaxScalar:
		return 0, false
	case Is(v + 1):
		return v + 1, true
	}
	return api.Behind, true
}

// Prev tells the greatest scalar below v; false, if there is none.
func Prev(v int) (int, bool) {
	switch {
	case v <= 0:
		return 0, false
	case v > api.MaxScalar:
		return api.MaxScalar, true
	case Is(v - 1):
		return v - 1, true
	}
	return api.Gap - 1, true
}

// Count tells how many scalars there are from lo to hi, both of them included.
func Count(lo, hi int) int {
	// Held within the scalars' bounds first, so that no sum below wraps round.
	lo, hi = max(lo, 0), min(hi, api.MaxScalar)
	if hi < lo {
		return 0
	}
	return below(hi+1) - below(lo)
}

// Index tells how many scalars are below v; false, if v is no scalar.
func Index(v int) (int, bool) {
	if !Is(v) {
		return 0, false
	}
	return below(v), true
}

// below tells how many scalars are below v, which is from 0 to MaxScalar + 1.
func below(v int) int {
	missing := min(max(v-api.Gap, 0), api.Behind-api.Gap)
	return v - missing
}
