package path_test

import (
	"math"
	"slices"
	"testing"

	"serif/api"
	"serif/path"
)

// boxed: Hull of knots at these places, of all kinds and of none, and Bounds of points there.
func boxed(t *testing.T, lists [][]api.Spot, want api.Box, there bool) {
	t.Helper()
	if b, ok := path.Bounds(lists); b != want || ok != there {
		t.Error("Bounds", lists, b, ok)
	}
	for kind := range 5 {
		var o [][]api.Knot
		for _, list := range lists {
			var contour []api.Knot
			for i, s := range list {
				contour = append(contour, api.Knot{X: s.X, Y: s.Y, Kind: (kind + i) % 5})
			}
			o = append(o, contour)
		}
		if b, ok := path.Hull(o); b != want || ok != there {
			t.Error("Hull", o, b, ok)
		}
	}
}

// P6.1: the least box, whichever places its sides come from.
func TestBoxes(t *testing.T) {
	for _, c := range []struct {
		lists [][]api.Spot
		box   api.Box
	}{
		{[][]api.Spot{{at(4, -2)}}, api.Box{X0: 4, Y0: -2, X1: 4, Y1: -2}},
		{[][]api.Spot{{at(0, 0)}}, api.Box{}},
		{[][]api.Spot{{at(5, 7), at(9, 8)}}, api.Box{X0: 5, Y0: 7, X1: 9, Y1: 8}},
		{[][]api.Spot{{at(-5, -7), at(-9, -8)}}, api.Box{X0: -9, Y0: -8, X1: -5, Y1: -7}},
		{[][]api.Spot{{at(1, 2), at(-3, 1), at(0, 9), at(7, 3), at(2, -4)}}, api.Box{X0: -3, Y0: -4, X1: 7, Y1: 9}},
		{[][]api.Spot{nil, {at(3, 3)}, {}, {at(4, 1), at(2, 2)}, nil}, api.Box{X0: 2, Y0: 1, X1: 4, Y1: 3}},
		{[][]api.Spot{{at(2, 2)}, {at(1, 3)}, {at(3, 1)}}, api.Box{X0: 1, Y0: 1, X1: 3, Y1: 3}},
	} {
		boxed(t, c.lists, c.box, true)
		for _, list := range c.lists {
			slices.Reverse(list)
		}
		slices.Reverse(c.lists)
		boxed(t, c.lists, c.box, true)
	}
}

// P6.1: without knots and without points there is none.
func TestNoBox(t *testing.T) {
	for _, lists := range [][][]api.Spot{nil, {}, {nil}, {{}}, {nil, {}, nil}, make([][]api.Spot, 300)} {
		boxed(t, lists, api.Box{}, false)
	}
}

// P6.1: boxes are asked of any numbers, and of as many as are there.
func TestBoxBounds(t *testing.T) {
	least, most := math.MinInt, math.MaxInt
	boxed(t, [][]api.Spot{{at(least, most)}}, api.Box{X0: least, Y0: most, X1: least, Y1: most}, true)
	boxed(t, [][]api.Spot{{at(most, least)}}, api.Box{X0: most, Y0: least, X1: most, Y1: least}, true)
	boxed(t, [][]api.Spot{{at(least, least)}, {at(most, most)}}, api.Box{X0: least, Y0: least, X1: most, Y1: most}, true)
	boxed(t, [][]api.Spot{{at(maxFix+1, -maxFix-1), at(0, 0)}}, api.Box{X0: 0, Y0: -maxFix - 1, X1: maxFix + 1, Y1: 0}, true)
	many := make([][]api.Spot, 300)
	many[299] = []api.Spot{at(-7, 8)}
	boxed(t, many, api.Box{X0: -7, Y0: 8, X1: -7, Y1: 8}, true)
	long := make([]api.Spot, 5000)
	long[0], long[4999] = at(1, -1), at(-2, 2)
	boxed(t, [][]api.Spot{long}, api.Box{X0: -2, Y0: -1, X1: 1, Y1: 2}, true)
}
