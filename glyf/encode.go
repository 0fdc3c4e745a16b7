package glyf

import (
	"math"
	"slices"

	"serif/api"
)

const mostCode = 65535 // instruction bytes that a number of two bytes tells

// Encode: the bytes of a simple glyph.
func Encode(o [][]api.Knot, code []byte) ([]byte, api.Errno) {
	if !writable(o) {
		return nil, api.ErrGlyfNone
	}
	full := withKnots(o)
	if tooMany(full) || len(code) > mostCode {
		return nil, api.ErrGlyfMany
	}
	knots := slices.Concat(full...)
	b := appendNumbers(nil, len(full))
	b = appendNumbers(b, make([]int, boxNumbers)...)
	b = appendNumbers(b, lastKnots(full)...)
	b = appendNumbers(b, len(code))
	b = append(b, code...)
	b = append(b, flagsOf(knots)...)
	b = appendNumbers(b, differences(knots, func(k api.Knot) int { return k.X })...)
	b = appendNumbers(b, differences(knots, func(k api.Knot) int { return k.Y })...)
	return b, api.OK
}

// writable: has each knot a kind and differences that a glyph's bytes can tell?
func writable(o [][]api.Knot) bool {
	var ahead api.Knot
	for _, contour := range o {
		for _, k := range contour {
			if k.Kind != api.KnotOn && k.Kind != api.KnotQuad || !isNear(ahead.X, k.X) || !isNear(ahead.Y, k.Y) {
				return false
			}
			ahead = k
		}
	}
	return true
}

// isNear: does the way to n have 16 bits? The number ahead is itself a sum of such ways, so no sum wraps round here; n may be any number.
func isNear(ahead, n int) bool {
	return n >= ahead+math.MinInt16 && n <= ahead+math.MaxInt16
}

// withKnots: the contours but those without knots.
func withKnots(o [][]api.Knot) [][]api.Knot {
	var full [][]api.Knot
	for _, contour := range o {
		if len(contour) > 0 {
			full = append(full, contour)
		}
	}
	return full
}

// lastKnots: which of all knots is each contour's last one.
func lastKnots(o [][]api.Knot) []int {
	list := make([]int, len(o))
	knots := 0
	for i, contour := range o {
		knots += len(contour)
		list[i] = knots - 1
	}
	return list
}

// flagsOf: a flag for each knot.
func flagsOf(knots []api.Knot) []byte {
	flags := make([]byte, len(knots))
	for i, k := range knots {
		if k.Kind == api.KnotOn {
			flags[i] = onCurve
		}
	}
	return flags
}

// differences: how far each knot's coordinate is from that of the one ahead of it.
func differences(knots []api.Knot, coordinate func(api.Knot) int) []int {
	list := make([]int, len(knots))
	ahead := 0
	for i, k := range knots {
		list[i] = coordinate(k) - ahead
		ahead = coordinate(k)
	}
	return list
}

// appendNumbers: the bytes so far, and those of numbers of two bytes.
func appendNumbers(b []byte, numbers ...int) []byte {
	for _, n := range numbers {
		b = append(b, byte(n>>8), byte(n))
	}
	return b
}
