package gstate

import (
	"serif/api"
	"serif/fixed"
)

const half = 32 // of a whole, in 1/64

// Round: a number rounded one way.
func Round(n, way int) int {
	if fixed.Check(n) != api.OK {
		return 0
	}
	// Layer 1 rounds halves up on both sides of 0; here what is below 0 mirrors what is above.
	if n < 0 {
		return -rounded(-n, way)
	}
	return rounded(n, way)
}

// rounded: of a FIX that isn't below 0.
func rounded(n, way int) int {
	switch way {
	case api.RoundGrid:
		return fixed.Round(n)
	case api.RoundHalf:
		return fixed.Floor(n) + half
	case api.RoundDouble:
		return (n + half/2) / half * half
	case api.RoundDown:
		return fixed.Floor(n)
	case api.RoundUp:
		return fixed.Ceil(n)
	}
	return n
}
