package gstate_test

import (
	"math"
	"math/rand"
	"testing"

	"serif/api"
	"serif/gstate"
)

// The section Types: the ways and the errors by their numbers.
func TestNumbers(t *testing.T) {
	for i, n := range []int{api.RoundGrid, api.RoundHalf, api.RoundDouble, api.RoundDown, api.RoundUp, api.RoundOff} {
		if n != i {
			t.Error(i, n)
		}
	}
	if api.ErrZone != 91 || api.ErrZoneFix != 94 || api.MaxPoints != 4096 || api.MaxFix != maxFix {
		t.Error(api.ErrZone, api.ErrZoneFix, api.MaxPoints, api.MaxFix)
	}
}

// rounds: what a way makes of n and, with a minus, of -n.
func rounds(t *testing.T, n, way, want int) {
	t.Helper()
	if got := gstate.Round(n, way); got != want {
		t.Errorf("Round(%d, %d) is %d, not %d", n, way, got, want)
	}
	if got := gstate.Round(-n, way); n != 0 && got != -want {
		t.Errorf("Round(%d, %d) is %d, not %d", -n, way, got, -want)
	}
	if got := roundModel(n, way); got != want {
		t.Errorf("the model of Round(%d, %d) is %d, not %d", n, way, got, want)
	}
}

// The section Examples.
func TestRoundExamples(t *testing.T) {
	for _, c := range [][3]int{{31, 0, 0}, {-33, 0, -64}, {0, 1, 32}, {-1, 4, -64}} {
		if got := gstate.Round(c[0], c[1]); got != c[2] {
			t.Error(c, got)
		}
	}
}

// P9.2: each way at and beside the multiples of 16, 32 and 64, above and below 0, and at the ends of FIX, where the answer may be none.
func TestRoundWays(t *testing.T) {
	const top = 1 << 31
	for _, c := range [][6]int{ // n; grid, half, double, down, up
		{0, 0, 32, 0, 0, 0}, {1, 0, 32, 0, 0, 64}, {15, 0, 32, 0, 0, 64}, {16, 0, 32, 32, 0, 64}, {17, 0, 32, 32, 0, 64},
		{31, 0, 32, 32, 0, 64}, {32, 64, 32, 32, 0, 64}, {33, 64, 32, 32, 0, 64}, {47, 64, 32, 32, 0, 64}, {48, 64, 32, 64, 0, 64}, {49, 64, 32, 64, 0, 64},
		{63, 64, 32, 64, 0, 64}, {64, 64, 96, 64, 64, 64}, {65, 64, 96, 64, 64, 128}, {79, 64, 96, 64, 64, 128}, {80, 64, 96, 96, 64, 128}, {81, 64, 96, 96, 64, 128},
		{95, 64, 96, 96, 64, 128}, {96, 128, 96, 96, 64, 128}, {97, 128, 96, 96, 64, 128}, {111, 128, 96, 96, 64, 128}, {112, 128, 96, 128, 64, 128},
		{127, 128, 96, 128, 64, 128}, {128, 128, 160, 128, 128, 128}, {129, 128, 160, 128, 128, 192}, {6400, 6400, 6432, 6400, 6400, 6400}, {6399, 6400, 6368, 6400, 6336, 6400},
		{top - 129, top - 128, top - 160, top - 128, top - 192, top - 128}, {top - 128, top - 128, top - 96, top - 128, top - 128, top - 128},
		{top - 65, top - 64, top - 96, top - 64, top - 128, top - 64}, {top - 64, top - 64, top - 32, top - 64, top - 64, top - 64}, {top - 63, top - 64, top - 32, top - 64, top - 64, top},
		{top - 49, top - 64, top - 32, top - 64, top - 64, top}, {top - 48, top - 64, top - 32, top - 32, top - 64, top}, {top - 33, top - 64, top - 32, top - 32, top - 64, top},
		{top - 32, top, top - 32, top - 32, top - 64, top}, {top - 31, top, top - 32, top - 32, top - 64, top}, {top - 17, top, top - 32, top - 32, top - 64, top},
		{top - 16, top, top - 32, top, top - 64, top}, {top - 15, top, top - 32, top, top - 64, top}, {top - 2, top, top - 32, top, top - 64, top}, {maxFix, top, top - 32, top, top - 64, top},
	} {
		for way := range 5 {
			rounds(t, c[0], way, c[1+way])
		}
		for _, way := range otherWays() {
			rounds(t, c[0], way, c[0])
		}
	}
}

// otherWays: RoundOff, and such as are none; some would be one of them in fewer bits.
func otherWays() []int {
	return []int{5, 6, 7, 9, -1, -2, -5, 256, 259, 1 << 32, 1<<32 + 1, 1<<32 + 4, -1 << 32, math.MaxInt, math.MinInt, math.MinInt + 1}
}

// P9.2: of an n that is no FIX every way makes 0.
func TestRoundNoFix(t *testing.T) {
	for _, n := range noFix() {
		for _, way := range append(otherWays(), 0, 1, 2, 3, 4) {
			if got := gstate.Round(n, way); got != 0 {
				t.Errorf("Round(%d, %d) is %d", n, way, got)
			}
		}
	}
}

// P9.2, P2: every number near 0 and many others, beside a second reading; twice the same.
func TestRoundMany(t *testing.T) {
	r := rand.New(rand.NewSource(92))
	for n := range 1000 {
		for way := -2; way <= 8; way++ {
			rounds(t, n, way, roundModel(n, way))
			rounds(t, maxFix-n, way, roundModel(maxFix-n, way))
		}
	}
	for range 20000 {
		n, way := r.Intn(maxFix), r.Intn(9)-2
		rounds(t, n, way, roundModel(n, way))
		if gstate.Round(n, way) != gstate.Round(n, way) {
			t.Error(n, way)
		}
	}
}
